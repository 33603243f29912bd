/-
  Merged texts of the base: Ita Itb Itc Lsa Lsb Sta Stb Stc.
-/
import Derived.Test.YtbgpboiblggmiaaGreatDoorQBaseB
import Derived.Test.YtbgpboiblggmiaaGreatDoorQBaseP
import Derived.Deep.RegionLaw
import Derived.Deep.RegionHeld3
import Derived.Deep.AppendLies
import Derived.Defers
import Derived.Recover
import Derived.StillTailTactics

set_option linter.unusedVariables false
set_option linter.unusedSimpArgs false
/-
  Walks over the reader's report.
-/
namespace Go.Proofs.YtbgpboiblggmiaaGreatDoor
open Go.RowKit
open Px (St T D Res left)

theorem infoD : (Tryz.prog.info? 33).map (fun i => (i.zero, i.size, i.bytes)) = some (some (.agg #[.int .i64 0, .int .i64 0]), 2, 16) := by kernel_rfl

/-- the diagnostics of a reader -/
theorem RdAt.diags {B E g : Nat} {w : World} {s : St} (h : RdAt B E g w s) :
    ∃ da dc, w.cell? ⟨g, 4, none⟩ = some (.slice da s.diags.length dc) ∧ w.frozen? ⟨g, 4, none⟩ = false ∧ s.diags.length ≤ 20 ∧ w.ownsRow B 33 2 (.slice da s.diags.length dc) s.diags.length (diagCells s.diags) ∧ (Value.slice da s.diags.length dc).ownBlock ≠ some g ∧
      ∀ (w' : World) (v : Value) (l : List D) (row : Option Nat), l.length ≤ 20 → (∀ k o, w.heap[k]? = some o → k ≤ g → some k ≠ row → w'.heap[k]? = some o) → row ≠ some g → (∀ k, row = some k → ∃ c fz, w.heap[k]? = some (.cells c 33 fz)) →
        w'.ownsRow B 33 2 v l.length (diagCells l) → v.ownBlock ≠ some g → RdAt B E g (w'.setCell ⟨g, 4, none⟩ v) { s with diags := l } := by
  obtain ⟨ta, tc, km, dv, hB, hg, ht, ⟨hkm, es, ck, hk, hl⟩, hd, ho, h1, h2⟩ := h
  obtain ⟨da, dc, rfl⟩ := ownsRow_form hd
  have hne : ∀ v : Value, ∀ (l : List D) (W : World), W.ownsRow B 33 2 v l.length (diagCells l) → W.heap[g]? = w.heap[g]? → v.ownBlock ≠ some g := by
    intro v l W hv hW e
    rcases hv.2 with ⟨rfl, _⟩ | ⟨k, c, cur, rfl, _, hgg, _⟩
    · cases e
    · cases e
      rw [hW, hg] at hgg
      cases hgg
  refine ⟨da, dc, cell_of_obj hg 4, frozen_of_obj hg 4, ho.diags, hd, hne _ _ w hd rfl, ?_⟩
  intro w' v l row hl20 hkeep hrow hrd hown hvg
  have hgs := hkeep _ _ hg (Nat.le_refl _) (Ne.symm hrow)
  have hnr : ∀ k o, w.heap[k]? = some o → (∀ c fz, o ≠ .cells c 33 fz) → some k ≠ row := by
    intro k o hk1 hk2 e
    obtain ⟨c, fz, hc⟩ := hrd k e.symm
    rw [hk1] at hc
    cases hc
    exact hk2 _ _ rfl
  have hblk : ∀ k o, w.heap[k]? = some o → k < g → (∀ c fz, o ≠ .cells c 33 fz) → (w'.setCell ⟨g, 4, none⟩ v).heap[k]? = some o := by
    intro k o hk1 hk2 hk3
    rw [Below.heap_setCell _ _ _ _ (by show k ≠ g; omega)]
    exact hkeep k o hk1 (by omega) (hnr k o hk1 hk3)
  refine ⟨ta, tc, km, v, hB, ?_, ?_, ⟨hkm, es, ck, hblk _ _ hk hkm (by intro c fz e; cases e), hl⟩, ?_, ⟨ho.toks, ho.len, hl20, ho.fin, ho.br⟩, h1, h2⟩
  · rw [obj_cell_same hgs]; rfl
  · rcases ht with h0 | ⟨b1, o1, cur, fz, ha, hb1, hc, hx⟩
    · exact .inl h0
    · exact .inr ⟨b1, o1, cur, fz, ha, hb1, hblk _ _ hc hb1 (by intro c f e; cases e), hx⟩
  · exact ownsRow_obj hown (fun k c hk1 hk2 => obj_cell_other hk2 (by rintro rfl; exact hvg hk1) _)

theorem diagCells_at (l : List D) : ∀ (k j : Nat) (d : D), l[k]? = some d → j < 2 → (diagCells l)[k * 2 + j]? = [Value.int .i64 d.err, .int .i64 d.off][j]? := by
  induction l with
  | nil => intro k j t h; simp at h
  | cons x r ih =>
    intro k j t h hj
    have e : diagCells (x :: r) = [Value.int .i64 x.err, .int .i64 x.off] ++ diagCells r := by simp [diagCells]
    rw [e]
    cases k with
    | zero =>
      simp only [List.getElem?_cons_zero, Option.some.injEq] at h
      subst h
      rw [List.getElem?_append_left (by simp; omega)]
      simp
    | succ k =>
      rw [List.getElem?_append_right (by simp; omega)]
      rw [show (k + 1) * 2 + j - [Value.int .i64 x.err, .int .i64 x.off].length = k * 2 + j from by simp; omega]
      exact ih k j t (by simpa using h) hj
/-- the last diagnostic's cell -/
theorem diag_last {w : World} {B : Nat} {a : Option Addr} {dc : Nat} {l : List D} {n : Nat} {d : D} (h : w.ownsRow B 33 2 (.slice a l.length dc) l.length (diagCells l)) (hn : l.length = n + 1) (hd : l[n]? = some d) :
    ∃ k, a = some ⟨k, 0, none⟩ ∧ k < w.heap.size ∧ w.cell? ⟨k, n * 2 + 1, none⟩ = some (.int .i64 d.off) := by
  rcases h.2 with ⟨_, h0⟩ | ⟨k, cap', cur, hv, _, hg, _⟩
  · omega
  · cases hv
    exact ⟨k, rfl, lt_heap hg, by rw [h.cellAt (n * 2 + 1) (by omega), diagCells_at l n 1 d hd (by omega)]; rfl⟩

theorem below_drewN {B n : Nat} {a w : World} (h : Below B a w) : Below B a (w.drewN n) := ⟨h.os, h.tape, h.output, h.size, h.block⟩
set_option maxRecDepth 100000 in
set_option maxHeartbeats 1000000 in
theorem report_no {B E g : Nat} {w : World} {s : St} (h : RdAt B E g w s) (d : D) (hno : 20 ≤ s.diags.length ∨ ∃ n d0, s.diags.length = n + 1 ∧ n + 1 < 20 ∧ s.diags[n]? = some d0 ∧ d0.off = d.off) :
    Calls Tryz.prog 59 #[.pointer (some ⟨g, 0, none⟩), .agg #[.int .i64 d.err, .int .i64 d.off]] w fun e w' => e = .returned (.tuple #[]) ∧ Below w.heap.size w w' := by
  obtain ⟨da, dc, c4, f4, h20, hown, hne, hK⟩ := h.diags
  have hlt := h.lt
  clear hK f4
  rcases hno with hno | ⟨n, d0, hn, hn20, hd0, he⟩
  · have hn20 : (s.diags.length : Int) = 20 := by omega
    rw [show s.diags.length = 20 by omega] at c4
    clear hown hne hno h20 hn20
    go_enter Tryz.func59, Tryz.ntmps59
    go_wp2_with fail
    go_quiet (fail)
    go_wp2_with fail
    go_end0
    exact ⟨rfl, below_drewN ((Below.refl _ _).alloc (Nat.le_refl _) _)⟩
  · obtain ⟨k, rfl, hk, hc⟩ := diag_last hown hn hd0
    rw [hn] at c4
    rw [he] at hc
    have g1 : ((n : Int) + 1 < 20) := by omega
    have g2 : ((n : Int) + 1 == 0) = false := beq_eq_false_iff_ne.2 (by omega)
    have g3 : IntKind.i64.wrap (n : Int) = (n : Int) := IntWalk.i64_in _ (by omega)
    have g4 : (0 : Int) ≤ (n : Int) := by omega
    have g5 : (n : Int) < (n : Int) + 1 := by omega
    clear hown hne h20 hn hd0 he hn20
    go_enter Tryz.func59, Tryz.ntmps59
    go_wp2_with fail
    go_quiet (fail)
    go_wp2_with fail
    go_end0
    exact ⟨rfl, below_drewN ((Below.refl _ _).alloc (Nat.le_refl _) _)⟩

theorem diagCells_snoc (l : List D) (d : D) : diagCells (l ++ [d]) = diagCells l ++ [.int .i64 d.err, .int .i64 d.off] := by simp [diagCells]

theorem Stays.grownD {B : Nat} {a b c : World} {row : Option Nat} (h : Stays B none a b) (hg : b.grownBy c row) (hr : ∀ k, row = some k → B ≤ k ∧ ∃ c fz, a.heap[k]? = some (.cells c 33 fz)) : Stays B none a c :=
  ⟨hg.os.trans h.os, hg.tape.trans h.tape, hg.output.trans h.output, Nat.le_trans h.size hg.size, fun k o hk hl hx => by
    have hlt := lt_heap hk
    rw [hg.block k (Nat.lt_of_lt_of_le hlt h.size) (fun e => by
      obtain ⟨h1, c1, f1, h2⟩ := hr k e.symm
      rw [hk] at h2
      cases h2
      rcases hl with hl | hl
      · omega
      · simp [loose] at hl)]
    exact h.block k o hk hl hx⟩
theorem row_obj {w : World} {B : Nat} {e : TypeId} {size : Nat} {v : Value} {n : Nat} {xs : List Value} (h : w.ownsRow B e size v n xs) : ∀ k, v.ownBlock = some k → B ≤ k ∧ ∃ c fz, w.heap[k]? = some (.cells c e fz) := by
  intro k hk
  rcases h.2 with ⟨rfl, _⟩ | ⟨k2, c, cur, rfl, hB, hg, _⟩
  · cases hk
  · cases hk
    exact ⟨hB, _, _, hg⟩
theorem report_fin {B E g : Nat} {w : World} {s : St} (h : RdAt B E g w s) (d : D) (h19 : s.diags.length < 20) {da : Option Addr} {dc : Nat} (c4 : w.cell? ⟨g, 4, none⟩ = some (.slice da s.diags.length dc))
    {W w1 : World} (hW : ∀ k, k < w.heap.size → W.heap[k]? = w.heap[k]?) (hWs : Stays B none w W) {H : Nat} (hH : w.heap.size ≤ H) {g1 cap1 n : Nat} (hn : n = s.diags.length + 1)
    (hown1 : w1.ownsRow B 33 2 (.slice (some ⟨g1, 0, none⟩) n cap1) n (diagCells s.diags ++ [.int .i64 d.err, .int .i64 d.off])) (hgrow1 : W.grownBy w1 (Value.slice da s.diags.length dc).ownBlock) (hat1 : (Value.slice da s.diags.length dc).ownBlock = some g1 ∨ g1 = H) :
    Stays B none w (w1.setCell ⟨g, 4, none⟩ (.slice (some ⟨g1, 0, none⟩) n cap1)) ∧ RdAt B E g (w1.setCell ⟨g, 4, none⟩ (.slice (some ⟨g1, 0, none⟩) n cap1)) { s with diags := s.diags ++ [d] } := by
  obtain ⟨hB, cs0, hg⟩ := h.obj
  have hlt := h.lt
  obtain ⟨da', dc', c4', -, -, hown, hne, hK⟩ := h.diags
  rw [c4] at c4'
  cases c4'
  subst hn
  refine ⟨Stays.setRd (hWs.grownD hgrow1 (row_obj hown)) hg hB _, ?_⟩
  refine hK w1 _ (s.diags ++ [d]) (Value.slice da s.diags.length dc).ownBlock (by simp; omega) ?_ hne (fun k hk => (row_obj hown k hk).2) ?_ ?_
  · intro k o hk1 hk2 hk3
    rw [hgrow1.block k (by have := hWs.size; omega) hk3, hW k (by omega)]
    exact hk1
  · rw [List.length_append, diagCells_snoc]
    exact hown1
  · intro e
    have e' : g1 = g := by simpa [Value.ownBlock] using e
    subst e'
    rcases hat1 with h1 | h1
    · exact hne h1
    · omega

set_option maxRecDepth 100000 in
set_option maxHeartbeats 2000000 in
theorem report_yes {B E g : Nat} {w : World} {s : St} (h : RdAt B E g w s) (d : D) (h19 : s.diags.length < 20) (hyes : s.diags.length = 0 ∨ ∃ n d0, s.diags.length = n + 1 ∧ s.diags[n]? = some d0 ∧ d0.off ≠ d.off) :
    Calls Tryz.prog 59 #[.pointer (some ⟨g, 0, none⟩), .agg #[.int .i64 d.err, .int .i64 d.off]] w fun e w' => e = .returned (.tuple #[]) ∧ Stays B none w w' ∧ RdAt B E g w' { s with diags := s.diags ++ [d] } := by
  obtain ⟨i0, hi, hz0, hz1, hz2⟩ := info_parts infoD
  obtain ⟨hB, cs0, hg⟩ := h.obj
  obtain ⟨da, dc, c4, f4, h20, hown, hne, hK⟩ := h.diags
  have hlt := h.lt
  have H := Lib.hid h
  have Hown := Lib.hid hown
  have Hne := Lib.hid hne
  clear hK h hg hown hne
  rcases hyes with hyes | ⟨n, d0, hn, hd0, he⟩
  · rw [hyes] at c4
    rw [hyes] at Hown Hne
    have Hnew := Lib.hid (fun n => show (((w.alloc (.cells #[.int .i64 d.err, .int .i64 d.off] 33)).drewN n).alloc (.cells #[.int .i64 d.err, .int .i64 d.off] 33)).heap[w.heap.size + 1]? = some (.cells #[.int .i64 d.err, .int .i64 d.off] 33 (0, 0)) from by
      have := obj_new ((w.alloc (.cells #[.int .i64 d.err, .int .i64 d.off] 33)).drewN n) (.cells #[.int .i64 d.err, .int .i64 d.off] 33)
      simpa using this)
    have Hsize := Lib.hid (fun n => show (((w.alloc (.cells #[.int .i64 d.err, .int .i64 d.off] 33)).drewN n).alloc (.cells #[.int .i64 d.err, .int .i64 d.off] 33)).heap.size = w.heap.size + 2 from by simp)
    have Hold := Lib.hid (fun n => show (((w.alloc (.cells #[.int .i64 d.err, .int .i64 d.off] 33)).drewN n).alloc (.cells #[.int .i64 d.err, .int .i64 d.off] 33)).heap[g]? = w.heap[g]? from by
      rw [Below.heap_alloc _ _ _ (by show g < (w.alloc _).heap.size; simp; omega)]
      exact Below.heap_alloc _ _ _ hlt)
    have Hbase := Lib.hid (fun n => show B ≤ (((w.alloc (.cells #[.int .i64 d.err, .int .i64 d.off] 33)).drewN n).alloc (.cells #[.int .i64 d.err, .int .i64 d.off] 33)).heap.size from by rw [Hsize.out]; omega)
    go_enter Tryz.func59, Tryz.ntmps59
    go_wp2_with fail
    go_quiet (fail)
    go_wp2_with fail
    go_region_law (refine step_append_lies _ (by rfl) _ _ _ (by rfl) B 33 i0 _ 2 16 Tryz.underlying26 hi hz0 hz1 hz2 rfl (by omega) (.slice da 0 dc) 0 _ (by rfl) (World.ownsRow.alloc (Hown.out.alloc _) _) ⟨w.heap.size + 1, 0, none⟩ 1 1 [.int .i64 d.err, .int .i64 d.off] (by rfl) (by rfl) (World.news_of_block (cs := #[.int .i64 d.err, .int .i64 d.off]) (t := 33) (fr := (0, 0)) (Hnew.out _)) (by simp [Value.oneCell']) (by omega) (by unfold maxLen; omega) (by omega) (Hbase.out _) (w.heap.size + 2) (Hsize.out _) ?_; intro g1 cap1 w1 hown1 hgrow1 hat1 hlt1; have hblk := (hgrow1.block g (by rw [Hsize.out]; omega) (Ne.symm Hne.out)).trans (Hold.out _); have q4 := (World.cell?_of_block (a := ⟨g, 4, none⟩) hblk).trans c4; have q5 := (World.frozen?_of_block (a := ⟨g, 4, none⟩) hblk).trans f4; clear hblk)
    all_goals go_wp2_with fail
    all_goals go_end0
    all_goals exact ⟨rfl, report_fin H.out d h19 (by rw [hyes]; exact c4) (W := ((w.alloc (.cells #[.int .i64 d.err, .int .i64 d.off] 33)).drewN _).alloc (.cells #[.int .i64 d.err, .int .i64 d.off] 33)) (fun k hk => by rw [Below.heap_alloc _ _ _ (by show k < (w.alloc _).heap.size; simp; omega)]; exact Below.heap_alloc _ _ _ hk) ((((Stays.refl _ _ _).alloc _).drewN _).alloc _) (H := w.heap.size + 2) (by omega) (by rw [hyes]) (by assumption) (by rw [hyes]; assumption) (by rw [hyes]; assumption)⟩
  · obtain ⟨k, rfl, hkw, hc⟩ := diag_last Hown.out hn hd0
    rw [hn] at c4 Hown Hne
    have g1' : ((n : Int) + 1 < 20) := by omega
    have g2' : ((n : Int) + 1 == 0) = false := beq_eq_false_iff_ne.2 (by omega)
    have g3' : IntKind.i64.wrap (n : Int) = (n : Int) := IntWalk.i64_in _ (by omega)
    have g4' : (0 : Int) ≤ (n : Int) := by omega
    have g5' : (n : Int) < (n : Int) + 1 := by omega
    have Hnew := Lib.hid (fun n => show (((w.alloc (.cells #[.int .i64 d.err, .int .i64 d.off] 33)).drewN n).alloc (.cells #[.int .i64 d.err, .int .i64 d.off] 33)).heap[w.heap.size + 1]? = some (.cells #[.int .i64 d.err, .int .i64 d.off] 33 (0, 0)) from by
      have := obj_new ((w.alloc (.cells #[.int .i64 d.err, .int .i64 d.off] 33)).drewN n) (.cells #[.int .i64 d.err, .int .i64 d.off] 33)
      simpa using this)
    have Hsize := Lib.hid (fun n => show (((w.alloc (.cells #[.int .i64 d.err, .int .i64 d.off] 33)).drewN n).alloc (.cells #[.int .i64 d.err, .int .i64 d.off] 33)).heap.size = w.heap.size + 2 from by simp)
    have Hold := Lib.hid (fun n => show (((w.alloc (.cells #[.int .i64 d.err, .int .i64 d.off] 33)).drewN n).alloc (.cells #[.int .i64 d.err, .int .i64 d.off] 33)).heap[g]? = w.heap[g]? from by
      rw [Below.heap_alloc _ _ _ (by show g < (w.alloc _).heap.size; simp; omega)]
      exact Below.heap_alloc _ _ _ hlt)
    have Hbase := Lib.hid (fun n => show B ≤ (((w.alloc (.cells #[.int .i64 d.err, .int .i64 d.off] 33)).drewN n).alloc (.cells #[.int .i64 d.err, .int .i64 d.off] 33)).heap.size from by rw [Hsize.out]; omega)
    clear hd0
    go_enter Tryz.func59, Tryz.ntmps59
    go_wp2_with fail
    go_quiet (fail)
    go_wp2_with fail
    go_region_law (refine step_append_lies _ (by rfl) _ _ _ (by rfl) B 33 i0 _ 2 16 Tryz.underlying26 hi hz0 hz1 hz2 rfl (by omega) (.slice (some ⟨k, 0, none⟩) (n + 1) dc) (n + 1) _ (by rfl) (World.ownsRow.alloc (Hown.out.alloc _) _) ⟨w.heap.size + 1, 0, none⟩ 1 1 [.int .i64 d.err, .int .i64 d.off] (by rfl) (by rfl) (World.news_of_block (cs := #[.int .i64 d.err, .int .i64 d.off]) (t := 33) (fr := (0, 0)) (Hnew.out _)) (by simp [Value.oneCell']) (by omega) (by unfold maxLen; omega) (by omega) (Hbase.out _) (w.heap.size + 2) (Hsize.out _) ?_; intro g1 cap1 w1 hown1 hgrow1 hat1 hlt1; have hblk := (hgrow1.block g (by rw [Hsize.out]; omega) (Ne.symm Hne.out)).trans (Hold.out _); have q4 := (World.cell?_of_block (a := ⟨g, 4, none⟩) hblk).trans c4; have q5 := (World.frozen?_of_block (a := ⟨g, 4, none⟩) hblk).trans f4; clear hblk)
    all_goals go_wp2_with fail
    all_goals go_end0
    all_goals exact ⟨rfl, report_fin H.out d h19 (by rw [hn]; exact c4) (W := ((w.alloc (.cells #[.int .i64 d.err, .int .i64 d.off] 33)).drewN _).alloc (.cells #[.int .i64 d.err, .int .i64 d.off] 33)) (fun k hk => by rw [Below.heap_alloc _ _ _ (by show k < (w.alloc _).heap.size; simp; omega)]; exact Below.heap_alloc _ _ _ hk) ((((Stays.refl _ _ _).alloc _).drewN _).alloc _) (H := w.heap.size + 2) (by omega) (by rw [hn]) (by assumption) (by rw [hn]; assumption) (by rw [hn]; assumption)⟩

theorem report_any {B E g : Nat} {w : World} {s : St} (h : RdAt B E g w s) (d : D) :
    Calls Tryz.prog 59 #[.pointer (some ⟨g, 0, none⟩), .agg #[.int .i64 d.err, .int .i64 d.off]] w fun e w' => e = .returned (.tuple #[]) ∧ Stays B none w w' ∧ RdAt B E g w' { s with diags := Px.report d s.diags } := by
  have hlast : ∀ n, s.diags.length = n + 1 → s.diags.getLast? = s.diags[n]? := by
    intro n hn
    rw [List.getLast?_eq_getElem?, hn]
    rfl
  by_cases h20 : s.diags.length < 20
  · cases hl : s.diags.length with
    | zero =>
      have hr : Px.report d s.diags = s.diags ++ [d] := by
        have h0 : s.diags = [] := List.eq_nil_of_length_eq_zero hl
        rw [h0]; rfl
      rw [hr]
      exact report_yes h d h20 (.inl hl)
    | succ n =>
      obtain ⟨d0, hd0⟩ : ∃ d0, s.diags[n]? = some d0 := ⟨_, List.getElem?_eq_getElem (by omega)⟩
      by_cases he : d0.off = d.off
      · have hr : Px.report d s.diags = s.diags := by
          unfold Px.report
          rw [hlast n hl, hd0]
          simp [he]
        rw [hr]
        refine (report_no h d (.inr ⟨n, d0, hl, by omega, hd0, he⟩)).mono ?_
        rintro e w' ⟨he, hb⟩
        exact ⟨he, (Stays.refl _ _ _).below hb (Nat.le_refl _), h.of_below hb (Nat.le_refl _)⟩
      · have hr : Px.report d s.diags = s.diags ++ [d] := by
          unfold Px.report
          rw [hlast n hl, hd0]
          simp [he, h20]
        rw [hr]
        exact report_yes h d h20 (.inr ⟨n, d0, hl, hd0, he⟩)
  · have hr : Px.report d s.diags = s.diags := by
      unfold Px.report
      rw [decide_eq_false h20]
      simp
    rw [hr]
    refine (report_no h d (.inl (by omega))).mono ?_
    rintro e w' ⟨he, hb⟩
    exact ⟨he, (Stays.refl _ _ _).below hb (Nat.le_refl _), h.of_below hb (Nat.le_refl _)⟩

theorem RdAt.braces {B E g : Nat} {w : World} {s : St} (h : RdAt B E g w s) :
    w.cell? ⟨g, 3, none⟩ = some (.int .i64 s.braces) ∧ w.frozen? ⟨g, 3, none⟩ = false ∧ ∀ w' b, Locals g w w' → 0 ≤ b → b ≤ 1 → RdAt B E g (w'.setCell ⟨g, 3, none⟩ (.int .i64 b)) { s with braces := b } := by
  obtain ⟨ta, tc, km, dv, hB, hg, ht, ⟨hkm, es, ck, hk, hl⟩, hd, ho, h1, h2⟩ := h
  refine ⟨cell_of_obj hg 3, frozen_of_obj hg 3, fun w' b hL hb0 hb1 => ?_⟩
  have hgs := hL.block _ _ hg (.inl (Nat.le_refl _))
  have hblk : ∀ k u, w.heap[k]? = some u → (k < g ∨ ∃ c fz, u = .cells c 33 fz) → (w'.setCell ⟨g, 3, none⟩ (.int .i64 b)).heap[k]? = some u := by
    intro k u hk hor
    rw [Below.heap_setCell]
    · exact hL.block _ _ hk (by rcases hor with h | h; · exact .inl (by omega)
                                · exact .inr h)
    · rintro rfl
      rcases hor with h | ⟨c, fz, rfl⟩
      · exact absurd h (Nat.lt_irrefl _)
      · rw [hg] at hk; cases hk
  refine ⟨ta, tc, km, dv, hB, ?_, ?_, ⟨hkm, es, ck, hblk _ _ hk (.inl hkm), hl⟩, ?_, ⟨ho.toks, ho.len, ho.diags, ho.fin, hb0, hb1⟩, h1, h2⟩
  · rw [obj_cell_same hgs]; rfl
  · rcases ht with h0 | ⟨b1, o1, cur, fz, ha, hb1, hc, hx⟩
    · exact .inl h0
    · exact .inr ⟨b1, o1, cur, fz, ha, hb1, hblk _ _ hc (.inl hb1), hx⟩
  · exact ownsRow_obj hd (fun k c _ hi => hblk _ _ hi (.inr ⟨_, _, rfl⟩))
end Go.Proofs.YtbgpboiblggmiaaGreatDoor

/-
  Walks over the reader's skip.
-/
namespace Go.Proofs.YtbgpboiblggmiaaGreatDoor
open Go.RowKit
open Px (St T D Res left)

/-- the depth of braces while tokens are skipped -/
structure DepthOk (d : Int) (l : List Lx.Tok) : Prop where
  a : 0 ≤ d
  b : d + (l.length : Int) ≤ 3000

set_option maxRecDepth 100000 in
set_option maxHeartbeats 4000000 in
theorem skip_rd {B E g : Nat} {w : World} {s : St} (h : RdAt B E g w s) (inB : Bool) :
    Calls Tryz.prog 60 #[.pointer (some ⟨g, 0, none⟩), .bool inB] w fun e w' => e = .returned (.tuple #[]) ∧ Stays B none w w' ∧ RdAt B E g w' ⟨Px.skipGo inB s.toks s.braces, 0, s.diags⟩ := by
  have hok := h.ok
  obtain ⟨hB, cs0, hg⟩ := h.obj
  obtain ⟨c3, f3, hK⟩ := h.braces
  have hlt := h.lt
  obtain ⟨R, hR⟩ : ∃ R, R = Px.skipGo inB s.toks s.braces := ⟨_, rfl⟩
  rw [← hR]
  have HX0 := Lib.hid hR
  have HR0 := Lib.hid (hK w 0 (Locals.refl _ _) (by decide) (by decide))
  have HS0 := Lib.hid ((Stays.refl B none w).setRd (p := ⟨g, 3, none⟩) hg hB (.int .i64 0))
  have HD0 := Lib.hid (show DepthOk s.braces s.toks from ⟨hok.br.1, by have := hok.br.2; have := hok.len; omega⟩)
  clear hR hK hok hg hB h
  have hF := tokF1
  go_enter Tryz.func60, Tryz.ntmps60
  go_wp2_with fail
  go_loopw [4] (fun dv wr => ∃ (ts : List Lx.Tok) (d : Int), dv = .int .i64 d ∧ Hid (R = Px.skipGo inB ts d) ∧ Hid (RdAt B E g wr ⟨ts, 0, s.diags⟩) ∧ Hid (Stays B none w wr) ∧ Hid (DepthOk d ts)) (fun _ wr => tokLen g wr)
  case atStart => exact ⟨s.toks, s.braces, rfl, HX0, HR0, HS0, HD0⟩
  case round =>
    obtain ⟨ts, d, rfl, HX, HR, HS, HD⟩ := hrel
    have hTl0 := Lib.hid (HR.out.tokLen)
    cases ts with
    | nil =>
      go_wp2_with fail
      refine (ended_any HR.out).mono ?_
      rintro e1 w1 ⟨rfl, rfl⟩
      go_wp2_with fail
      (first | go_end0 | refine bodyPost_ret (results_none (by rfl) _ _ _) rfl ?_)
      rw [HX.out]
      exact ⟨rfl, HS.out, HR.out⟩
    | cons t r =>
      have hx := HX.out
      rw [Px.skipGo.eq_def] at hx
      have HX := Lib.hid hx
      clear hx
      go_wp2_with fail
      refine (ended_any HR.out).mono ?_
      rintro e1 w1 ⟨rfl, rfl⟩
      cases inB
      · have HX := Lib.hid (HX.out.trans (if_neg (by simp)))
        go_wp2_with fail
        refine (take_any (HR.out.locals (by (exact Locals.au))) (t := t) (r := r) rfl).mono ?_
        rintro e5 w5 ⟨rfl, hS5, hR5⟩
        have HR := Lib.hid (show RdAt B E g w5 ⟨r, 0, s.diags⟩ from hR5)
        have HS := Lib.hid (Stays.trans (a := w) (by (exact Stays.au)) hS5)
        clear hR5 hS5
        unfold tokVal
        have hTl := Lib.hid (HR.out.tokLen)
        have hd1 : IntKind.i64.wrap (d + 1) = d + 1 := IntWalk.i64_in _ (by have := HD.out.a; have := HD.out.b; omega)
        have hd2 : IntKind.i64.wrap (d - 1) = d - 1 := IntWalk.i64_in _ (by have := HD.out.a; have := HD.out.b; omega)
        cases e1 : (t.text == [123])
        · have HX := Lib.hid (HX.out.trans (if_neg (by intro h; rw [h] at e1; exact absurd e1 (by decide))))
          cases e2 : (t.text == [125])
          · have HX := Lib.hid (HX.out.trans (if_neg (by intro h; rw [h] at e2; exact absurd e2 (by decide))))
            cases e3 : (t.text == [59])
            · have HX := Lib.hid (HX.out.trans (if_neg (by rintro ⟨h, _⟩; rw [h] at e3; exact absurd e3 (by decide))))
              go_wp2_with fail
              go_round
              case rel => exact ⟨r, d, by go_num, HX, HR, HS, Lib.hid ⟨by have := HD.out.a; omega, by have := HD.out.b; simp at this; omega⟩⟩
              case measure => rw [hTl.out, hTl0.out]; simp [Px.left]
            · by_cases hd0 : d = 0
              · have HX := Lib.hid (HX.out.trans (if_pos ⟨eq_of_beq e3, hd0⟩))
                go_wp2_with fail
                (first | go_end0 | refine bodyPost_ret (results_none (by rfl) _ _ _) rfl ?_)
                rw [HX.out]
                exact ⟨rfl, HS.out, HR.out⟩
              · have HX := Lib.hid (HX.out.trans (if_neg (fun h => hd0 h.2)))
                go_wp2_with fail
                go_round
                case rel => exact ⟨r, d, by go_num, HX, HR, HS, Lib.hid ⟨by have := HD.out.a; omega, by have := HD.out.b; simp at this; omega⟩⟩
                case measure => rw [hTl.out, hTl0.out]; simp [Px.left]
          · have HX := Lib.hid (HX.out.trans (if_pos (eq_of_beq e2)))
            by_cases hd3 : d - 1 < 0
            · have HX := Lib.hid (HX.out.trans (if_pos hd3))
              go_wp2_with fail
              (first | go_end0 | refine bodyPost_ret (results_none (by rfl) _ _ _) rfl ?_)
              rw [HX.out]
              exact ⟨rfl, HS.out, HR.out⟩
            · have HX := Lib.hid (HX.out.trans (if_neg hd3))
              by_cases hd4 : d - 1 = 0
              · have HX := Lib.hid (HX.out.trans (if_pos hd4))
                go_wp2_with fail
                refine (accept_any HR.out [59] (by decide)).mono ?_
                rintro e6 w6 ⟨rfl, hS6, hR6⟩
                have HS6 := Lib.hid (HS.out.trans hS6)
                have HR6 := Lib.hid (show RdAt B E g w6 ⟨R, 0, s.diags⟩ from by
                  rw [HX.out]
                  cases r with
                  | nil => exact hR6
                  | cons u q =>
                    unfold Px.accepted Px.accepts Px.text Px.peek at hR6
                    simp only at hR6
                    by_cases hu : u.text = [59]
                    · rw [if_pos (by simp [hu])] at hR6
                      simp only [if_pos hu]
                      exact hR6
                    · rw [if_neg (by simp [hu])] at hR6
                      simp only [if_neg hu]
                      exact hR6)
                clear hS6 hR6
                cases hac : Px.accepts E [59] ⟨r, 0, s.diags⟩
                · go_wp2_with fail
                  (first | go_end0 | refine bodyPost_ret (results_none (by rfl) _ _ _) rfl ?_)
                  exact ⟨rfl, HS6.out, HR6.out⟩
                · go_wp2_with fail
                  (first | go_end0 | refine bodyPost_ret (results_none (by rfl) _ _ _) rfl ?_)
                  exact ⟨rfl, HS6.out, HR6.out⟩
              · have HX := Lib.hid (HX.out.trans (if_neg hd4))
                go_wp2_with fail
                go_round
                case rel => exact ⟨r, d - 1, by go_num, HX, HR, HS, Lib.hid ⟨by have := HD.out.a; omega, by have := HD.out.b; simp at this; omega⟩⟩
                case measure => rw [hTl.out, hTl0.out]; simp [Px.left]
        · have HX := Lib.hid (HX.out.trans (if_pos (eq_of_beq e1)))
          go_wp2_with fail
          go_round
          case rel => exact ⟨r, d + 1, by go_num, HX, HR, HS, Lib.hid ⟨by have := HD.out.a; omega, by have := HD.out.b; simp at this; omega⟩⟩
          case measure => rw [hTl.out, hTl0.out]; simp [Px.left]
      · by_cases hd : d = 0
        · subst hd
          go_wp2_with fail
          refine (peek_any HR.out).mono ?_
          rintro e2 w2 ⟨rfl, hb2⟩
          unfold tokVal
          have HR := Lib.hid (HR.out.of_below hb2 (Nat.le_refl _))
          have HS := Lib.hid (HS.out.below hb2 (by have := HS.out.size; omega))
          clear hb2
          cases e0 : (t.text == [125])
          · have x0 : ((Px.peek E ⟨t :: r, 0, s.diags⟩).text == [125]) = false := e0
            have HX := Lib.hid (HX.out.trans (if_neg (by rw [e0]; simp)))
            go_wp2_with fail
            refine (take_any (HR.out.locals (by (exact Locals.au))) (t := t) (r := r) rfl).mono ?_
            rintro e5 w5 ⟨rfl, hS5, hR5⟩
            have HR := Lib.hid (show RdAt B E g w5 ⟨r, 0, s.diags⟩ from hR5)
            have HS := Lib.hid (Stays.trans (a := w) (by (exact Stays.au)) hS5)
            clear hR5 hS5
            unfold tokVal
            have hTl := Lib.hid (HR.out.tokLen)
            cases e1 : (t.text == [123])
            · have HX := Lib.hid (HX.out.trans (if_neg (by intro h; rw [h] at e1; exact absurd e1 (by decide))))
              have HX := Lib.hid (HX.out.trans (if_neg (by intro h; rw [h] at e0; exact absurd e0 (by decide))))
              cases e3 : (t.text == [59])
              · have HX := Lib.hid (HX.out.trans (if_neg (by rintro ⟨h, _⟩; rw [h] at e3; exact absurd e3 (by decide))))
                go_wp2_with fail
                go_round
                case rel => exact ⟨r, 0, by go_num, HX, HR, HS, Lib.hid ⟨by have := HD.out.a; omega, by have := HD.out.b; simp at this; omega⟩⟩
                case measure => rw [hTl.out, hTl0.out]; simp [Px.left]
              · have HX := Lib.hid (HX.out.trans (if_pos ⟨eq_of_beq e3, trivial⟩))
                go_wp2_with fail
                (first | go_end0 | refine bodyPost_ret (results_none (by rfl) _ _ _) rfl ?_)
                rw [HX.out]
                exact ⟨rfl, HS.out, HR.out⟩
            · have HX := Lib.hid (HX.out.trans (if_pos (eq_of_beq e1)))
              go_wp2_with fail
              go_round
              case rel => exact ⟨r, 0 + 1, by go_num, HX, HR, HS, Lib.hid ⟨by have := HD.out.a; omega, by have := HD.out.b; simp at this; omega⟩⟩
              case measure => rw [hTl.out, hTl0.out]; simp [Px.left]
          · have x0 : ((Px.peek E ⟨t :: r, 0, s.diags⟩).text == [125]) = true := e0
            have HX := Lib.hid (HX.out.trans (if_pos (by rw [e0]; simp)))
            go_wp2_with fail
            (first | go_end0 | refine bodyPost_ret (results_none (by rfl) _ _ _) rfl ?_)
            rw [HX.out]
            exact ⟨rfl, HS.out, HR.out⟩
        · have HX := Lib.hid (HX.out.trans (if_neg (by simp [hd])))
          go_wp2_with fail
          refine (take_any (HR.out.locals (by (exact Locals.au))) (t := t) (r := r) rfl).mono ?_
          rintro e5 w5 ⟨rfl, hS5, hR5⟩
          have HR := Lib.hid (show RdAt B E g w5 ⟨r, 0, s.diags⟩ from hR5)
          have HS := Lib.hid (Stays.trans (a := w) (by (exact Stays.au)) hS5)
          clear hR5 hS5
          unfold tokVal
          have hTl := Lib.hid (HR.out.tokLen)
          have hd1 : IntKind.i64.wrap (d + 1) = d + 1 := IntWalk.i64_in _ (by have := HD.out.a; have := HD.out.b; omega)
          have hd2 : IntKind.i64.wrap (d - 1) = d - 1 := IntWalk.i64_in _ (by have := HD.out.a; have := HD.out.b; omega)
          cases e1 : (t.text == [123])
          · have HX := Lib.hid (HX.out.trans (if_neg (by intro h; rw [h] at e1; exact absurd e1 (by decide))))
            cases e2 : (t.text == [125])
            · have HX := Lib.hid (HX.out.trans (if_neg (by intro h; rw [h] at e2; exact absurd e2 (by decide))))
              cases e3 : (t.text == [59])
              · have HX := Lib.hid (HX.out.trans (if_neg (by rintro ⟨h, _⟩; rw [h] at e3; exact absurd e3 (by decide))))
                go_wp2_with fail
                go_round
                case rel => exact ⟨r, d, by go_num, HX, HR, HS, Lib.hid ⟨by have := HD.out.a; omega, by have := HD.out.b; simp at this; omega⟩⟩
                case measure => rw [hTl.out, hTl0.out]; simp [Px.left]
              · by_cases hd0 : d = 0
                · have HX := Lib.hid (HX.out.trans (if_pos ⟨eq_of_beq e3, hd0⟩))
                  go_wp2_with fail
                  (first | go_end0 | refine bodyPost_ret (results_none (by rfl) _ _ _) rfl ?_)
                  rw [HX.out]
                  exact ⟨rfl, HS.out, HR.out⟩
                · have HX := Lib.hid (HX.out.trans (if_neg (fun h => hd0 h.2)))
                  go_wp2_with fail
                  go_round
                  case rel => exact ⟨r, d, by go_num, HX, HR, HS, Lib.hid ⟨by have := HD.out.a; omega, by have := HD.out.b; simp at this; omega⟩⟩
                  case measure => rw [hTl.out, hTl0.out]; simp [Px.left]
            · have HX := Lib.hid (HX.out.trans (if_pos (eq_of_beq e2)))
              by_cases hd3 : d - 1 < 0
              · have HX := Lib.hid (HX.out.trans (if_pos hd3))
                go_wp2_with fail
                (first | go_end0 | refine bodyPost_ret (results_none (by rfl) _ _ _) rfl ?_)
                rw [HX.out]
                exact ⟨rfl, HS.out, HR.out⟩
              · have HX := Lib.hid (HX.out.trans (if_neg hd3))
                by_cases hd4 : d - 1 = 0
                · have HX := Lib.hid (HX.out.trans (if_pos hd4))
                  go_wp2_with fail
                  refine (accept_any HR.out [59] (by decide)).mono ?_
                  rintro e6 w6 ⟨rfl, hS6, hR6⟩
                  have HS6 := Lib.hid (HS.out.trans hS6)
                  have HR6 := Lib.hid (show RdAt B E g w6 ⟨R, 0, s.diags⟩ from by
                    rw [HX.out]
                    cases r with
                    | nil => exact hR6
                    | cons u q =>
                      unfold Px.accepted Px.accepts Px.text Px.peek at hR6
                      simp only at hR6
                      by_cases hu : u.text = [59]
                      · rw [if_pos (by simp [hu])] at hR6
                        simp only [if_pos hu]
                        exact hR6
                      · rw [if_neg (by simp [hu])] at hR6
                        simp only [if_neg hu]
                        exact hR6)
                  clear hS6 hR6
                  cases hac : Px.accepts E [59] ⟨r, 0, s.diags⟩
                  · go_wp2_with fail
                    (first | go_end0 | refine bodyPost_ret (results_none (by rfl) _ _ _) rfl ?_)
                    exact ⟨rfl, HS6.out, HR6.out⟩
                  · go_wp2_with fail
                    (first | go_end0 | refine bodyPost_ret (results_none (by rfl) _ _ _) rfl ?_)
                    exact ⟨rfl, HS6.out, HR6.out⟩
                · have HX := Lib.hid (HX.out.trans (if_neg hd4))
                  go_wp2_with fail
                  go_round
                  case rel => exact ⟨r, d - 1, by go_num, HX, HR, HS, Lib.hid ⟨by have := HD.out.a; omega, by have := HD.out.b; simp at this; omega⟩⟩
                  case measure => rw [hTl.out, hTl0.out]; simp [Px.left]
          · have HX := Lib.hid (HX.out.trans (if_pos (eq_of_beq e1)))
            go_wp2_with fail
            go_round
            case rel => exact ⟨r, d + 1, by go_num, HX, HR, HS, Lib.hid ⟨by have := HD.out.a; omega, by have := HD.out.b; simp at this; omega⟩⟩
            case measure => rw [hTl.out, hTl0.out]; simp [Px.left]
end Go.Proofs.YtbgpboiblggmiaaGreatDoor

/-
  Walks over the reader's item: the deferred closure, in both modes.
-/
namespace Go.Proofs.YtbgpboiblggmiaaGreatDoor
open Go.RowKit
open Px (St T D Res left)

theorem assertD (a b : Value) (w : World) : (Instr.typeAssert (.iface 33 (.agg #[a, b])) 20 33 false).run Tryz.prog w = .ok (.agg #[a, b]) w := by kernel_rfl

set_option maxRecDepth 100000 in
set_option maxHeartbeats 400000 in
theorem catch_bad {B E g : Nat} {w : World} {s : St} (h : RdAt B E g w s) (d : D) (inB : Bool) (bx by' : Nat) (hx : w.heap[bx]? = some (.cells #[.pointer (some ⟨g, 0, none⟩)] 60 (0, 0))) (hy : w.heap[by']? = some (.cells #[.bool inB] 4 (0, 0))) :
    CallsD Tryz.prog 58 #[.pointer (some ⟨bx, 0, none⟩), .pointer (some ⟨by', 0, none⟩)] (.panicking [{ v := diagI d, recovered := false }]) w fun e u' w' =>
      e = .returned (.tuple #[]) ∧ u' = .panicking [{ v := diagI d, recovered := true }] ∧ Stays B none w w' ∧ RdAt B E g w' ⟨Px.skipGo inB s.toks s.braces, 0, Px.report d s.diags⟩ := by
  refine callsD_of_wpS Tryz.func58 rfl fun c₀ cs hu => ?_
  apply wpS_seq
  apply wpS_region
  simp [wpOpsS, go_sem, recoverD, hu, Tryz.ntmps58, Exit.thenS, diagI]
  refine wpS_of_wp ?_
  have hlt := h.lt
  have H := Lib.hid h
  obtain ⟨x0, x1⟩ := obj_facts hx
  obtain ⟨y0, y1⟩ := obj_facts hy
  have Hx := Lib.hid hx
  have Hy := Lib.hid hy
  have Hu := Lib.hid hu
  have hta := assertD
  clear h hx hy hu
  go_wp2_with fail
  go_region_law (go_simp; go_at_call 59; refine (report_any (H.out.locals (Locals.refl _ _).drew) d).mono ?_; rintro e1 w1 ⟨rfl, hS1, hR1⟩; have HS1 := Lib.hid (((Stays.refl B none w).drew).trans hS1); have HR1 := Lib.hid hR1; obtain ⟨x2, x3⟩ := obj_facts (HS1.out.block _ _ Hx.out (.inr rfl) (by simp)); obtain ⟨y2, y3⟩ := obj_facts (HS1.out.block _ _ Hy.out (.inr rfl) (by simp)); clear hS1 hR1)
  all_goals go_wp2_with fail
  all_goals refine (skip_rd HR1.out inB).mono ?_
  all_goals rintro e2 w2 ⟨rfl, hS2, hR2⟩
  all_goals go_wp2_with fail
  all_goals simp [bodyPostS, results, Tryz.results58]
  all_goals exact ⟨HS1.out.trans hS2, hR2⟩

set_option maxRecDepth 100000 in
set_option maxHeartbeats 400000 in
theorem catch_idle (bx by' : Nat) (w : World) :
    CallsD Tryz.prog 58 #[.pointer (some ⟨bx, 0, none⟩), .pointer (some ⟨by', 0, none⟩)] .returning w fun e u' w' => e = .returned (.tuple #[]) ∧ u' = .returning ∧ w' = w := by
  refine callsD_of_wpS Tryz.func58 rfl fun c₀ cs hu => ?_
  apply wpS_seq
  apply wpS_region
  simp [wpOpsS, go_sem, recoverD, hu, Tryz.ntmps58, Exit.thenS]
  refine wpS_of_wp ?_
  go_wp2_with fail
  cases c₀
  simp_all [bodyPostS, results, Tryz.results58]

theorem Var.new' {t : TypeId} {w : World} {cs : Array Value} {b : Nat} (hb : b = w.heap.size) : Var t (w.alloc (.cells cs t)) b cs := by subst hb; exact Var.new _ _ _

theorem item_results {tmps : Array Value} {w : World} {b : Nat} {cs : Array Value} {v : Value} (h6 : tmps.getD 6 undef = .pointer (some ⟨b, 0, none⟩)) (hv : Var 25 w b cs) (h9 : cs.size = 9) (h7 : tmps.getD 7 undef = v) :
    (results Tryz.f41 tmps).run Tryz.prog w = .ok (.tuple #[.agg cs, v]) w := by
  rw [results_cell_tmp (by rfl)]
  rw [h6, h7]
  simp [asAddr, run_loadVar_row w b 25 25 cs (0, 0) _ hv Tryz.underlying25 rfl (by rw [infoN, h9])]

/-- what 'item' says -/
def ItemSaid (B E g : Nat) (w : World) (inB : Bool) (m : Res T) (e : Ending) (w' : World) : Prop :=
  Stays B none w w' ∧ match m with
  | .ok t s1 => ∃ a cap, e = .returned (.tuple #[nodeVal t (.slice a t.kids.length cap), .bool true]) ∧ Row (fun b => w.heap.size ≤ b) w' t.kids (.slice a t.kids.length cap) ∧ RdAt B E g w' s1
  | .bad d s1 => e = .returned (.tuple #[nodeVal T.zero (.slice none 0 0), .bool false]) ∧ RdAt B E g w' ⟨Px.skipGo inB s1.toks s1.braces, 0, Px.report d s1.diags⟩

set_option maxRecDepth 100000 in
set_option maxHeartbeats 1000000 in
theorem item_rd {B E g : Nat} {w : World} {s : St} (h : RdAt B E g w s) (F : FuncId) (hcf : ∀ (args : Array Value) (w : World), (callFunc F args).run Tryz.prog w = .ok (.enter F args) w) (m : Res T)
    (hF : ∀ w', RdAt B E g w' s → Calls Tryz.prog F #[.pointer (some ⟨g, 0, none⟩)] w' (Says B E g w' (encT w'.heap.size) m)) (inB : Bool) :
    Calls Tryz.prog 41 #[.pointer (some ⟨g, 0, none⟩), .func (Fn.func F) #[.pointer (some ⟨g, 0, none⟩)] #[], .bool inB] w (ItemSaid B E g w inB m) := by
  have hmf : ∀ (fn : Fn) (first cap : Array Value) (w : World), (Instr.makeFunc fn first cap).run Tryz.prog w = .ok (.func fn first cap) w := fun _ _ _ _ => rfl
  have hlt := h.lt
  have hB := h.le
  have HR := Lib.hid h
  have HF := Lib.hid hF
  have HS := Lib.hid (Stays.refl B none w)
  clear h hF
  go_enter_defers Tryz.func41, Tryz.ntmps41
  go_wp2_with fail
  refine (HF.out _ (HR.out.locals (by (exact Locals.au)))).mono ?_
  intro e1 w1 hm1
  refine hm1.cases ?_ ?_
  · intro a1 s1 v1 hr1 he1 hv1 hR1 hS1
    subst he1
    obtain ⟨p1, c1, rfl, hw1⟩ := hv1
    have HS1 := Lib.hid (Stays.trans (a := w) (by (exact Stays.au)) hS1)
    have Hr1 := Lib.hid hr1
    have HR1 := Lib.hid hR1
    have Hw1 := Lib.hid hw1.lt
    have hs1 := hS1.size
    (try simp at hs1)
    have z0 : Var 25 w1 (w.heap.size + 1 + 1) _ := Var.stays (Var.new' (by simp)) hS1
    clear hm1 hr1 hR1 hw1
    have z0l := z0.lt
    obtain ⟨z0c, z0f⟩ := obj_facts z0
    unfold nodeVal
    go_wp2_with fail
    (rw [storeN]; rotate_left; (exact HasN.au))
    refine leaves_cons (f := 58) (args := #[.pointer (some ⟨w.heap.size, 0, none⟩), .pointer (some ⟨w.heap.size + 1, 0, none⟩)]) (by simp) (by simp [go_sem]) ?_
    refine (catch_idle _ _ _).mono ?_
    rintro e u' w'' ⟨rfl, rfl, rfl⟩
    refine ⟨_, item_results (by rfl) (Var.row_same z0 _) (by rfl) (by rfl), ?_⟩
    unfold ItemSaid
    rw [Hr1.out]
    refine ⟨HS1.out.setRow (by omega) _, p1, c1, rfl, ?_, HR1.out.locals ((Locals.refl _ _).setRowN (HasV.of z0) (by omega) _)⟩
    refine Row.mono (Row.setRow Hw1.out ?_ _) ?_
    · intro hb
      simp at hb
      omega
    · intro b hb
      simp at hb
      omega
  · intro d1 s1 hr1 he1 hR1 hS1
    subst he1
    have HS1 := Lib.hid (Stays.trans (a := w) (by (exact Stays.au)) hS1)
    have Hr1 := Lib.hid hr1
    have HR1 := Lib.hid hR1
    have z0 : Var 25 w1 (w.heap.size + 1 + 1) _ := Var.stays (Var.new' (by simp)) hS1
    have hbx : w1.heap[w.heap.size]? = some (.cells #[.pointer (some ⟨g, 0, none⟩)] 60 (0, 0)) := hS1.block _ _ (obj_old (obj_old (obj_new _ _) _) _) (.inr rfl) (by simp)
    have hby : w1.heap[w.heap.size + 1]? = some (.cells #[.bool inB] 4 (0, 0)) := hS1.block _ _ (obj_old (by have := obj_new (w.alloc (.cells #[.pointer (some ⟨g, 0, none⟩)] 60)) (.cells #[.bool inB] 4); simpa using this) _) (.inr rfl) (by simp)
    clear hm1 hr1 hR1
    go_wp2_with fail
    refine leaves_cons (f := 58) (args := #[.pointer (some ⟨w.heap.size, 0, none⟩), .pointer (some ⟨w.heap.size + 1, 0, none⟩)]) (by simp) (by simp [go_sem]) ?_
    refine (catch_bad HR1.out d1 inB _ _ hbx hby).mono ?_
    rintro e u' w'' ⟨rfl, rfl, hS2, hR2⟩
    refine ⟨_, item_results (by rfl) (z0.stays hS2) (by rfl) (by rfl), ?_⟩
    unfold ItemSaid
    rw [Hr1.out]
    exact ⟨HS1.out.trans hS2, rfl, hR2⟩
end Go.Proofs.YtbgpboiblggmiaaGreatDoor

/-
  Rows of trees that are appended to; lists of parts.
-/
namespace Go.Proofs.YtbgpboiblggmiaaGreatDoor
open Go.RowKit
open Px (St T D Res left Takes)

theorem infoNode : (Tryz.prog.info? 25).map (fun i => (i.zero, i.size, i.bytes)) = some (some (.agg #[.int .i64 0, .string ⟨#[]⟩, .string ⟨#[]⟩, .int .i64 0, .int .i64 0, .int .i64 0, .bool false, .slice none 0 0, .int .i64 0]), 9, 104) := by kernel_rfl

/-- a row of trees whose own block is none of its trees' blocks -/
def RowX (S : Nat → Prop) (w : World) (l : List T) (kv : Value) : Prop := ∃ xs, w.ownsRow 0 25 9 kv l.length xs ∧ (∀ b, kv.ownBlock = some b → S b) ∧ Nodes (fun b => S b ∧ kv.ownBlock ≠ some b) w l xs
namespace RowX
variable {S S' : Nat → Prop} {w w' : World} {l : List T} {kv : Value}
theorem nil (S : Nat → Prop) (w : World) : RowX S w [] (.slice none 0 0) := ⟨[], World.ownsRow_nil _ _ _ _, (by intro b hb; cases hb), by rw [Nodes]⟩
theorem row (h : RowX S w l kv) : Row S w l kv := by
  obtain ⟨xs, h1, h2, h3⟩ := h
  exact ⟨xs, h1, h2, Nodes.keep (fun _ h _ => h.1) (fun _ _ _ h => h) l xs h3⟩
theorem keep (h : RowX S w l kv) (hS : ∀ b, S b → b < w.heap.size → S' b) (hw : ∀ b c, S b → w.heap[b]? = some (.cells c 25 (0, 0)) → w'.heap[b]? = some (.cells c 25 (0, 0))) : RowX S' w' l kv := by
  obtain ⟨xs, h1, h2, h3⟩ := h
  exact ⟨xs, ownsRow_obj h1 (fun k c hk hc => hw k c (h2 k hk) hc), fun b hb => hS b (h2 b hb) (h1.lt b hb).2, Nodes.keep (fun b hb hlt => ⟨hS b hb.1 hlt, hb.2⟩) (fun b c hb => hw b c hb.1) l xs h3⟩
theorem alloc (h : RowX S w l kv) (o : Obj) : RowX S (w.alloc o) l kv := h.keep (fun _ h _ => h) (fun _ _ _ hb => obj_old hb o)
theorem setRow (h : RowX S w l kv) {g : Nat} (hg : ¬ S g) (cs : Array Value) : RowX S (w.setRow g cs) l kv := h.keep (fun _ h _ => h) (fun _ _ hS hb => obj_row_other hb (by rintro rfl; exact hg hS) cs)
theorem stays {B : Nat} (h : RowX S w l kv) (k : Stays B none w w') : RowX S w' l kv := h.keep (fun _ h _ => h) (fun _ _ _ hb => k.block _ _ hb (.inr rfl) (by simp))
theorem lt (h : RowX S w l kv) : RowX (fun b => S b ∧ b < w.heap.size) w l kv := h.keep (fun _ h1 h2 => ⟨h1, h2⟩) (fun _ _ _ hb => hb)
theorem mono (h : RowX S w l kv) (hS : ∀ b, S b → S' b) : RowX S' w l kv := h.keep (fun b hb _ => hS b hb) (fun _ _ _ hb => hb)
theorem form (h : RowX S w l kv) : ∃ a cap, kv = .slice a l.length cap := by
  obtain ⟨xs, h1, _⟩ := h
  exact ownsRow_form h1
theorem len (h : RowX S w l kv) : ∃ xs, w.ownsRow 0 25 9 kv l.length xs ∧ xs.length = l.length * 9 := by
  obtain ⟨xs, h1, _, h3⟩ := h
  exact ⟨xs, h1, Nodes.len _ _ h3⟩
end RowX
theorem Nodes.snoc {S : Nat → Prop} {w : World} {t : T} {kv : Value} (ht : Row S w t.kids kv) : ∀ (l : List T) (xs : List Value), Nodes S w l xs → Nodes S w (l ++ [t]) (xs ++ nodeCells t kv)
  | [], xs, h => by rw [Nodes] at h; subst h; exact nodes_one ht
  | u :: r, xs, h => by
    rw [Nodes] at h
    obtain ⟨kv', rest, rfl, h1, h2⟩ := h
    rw [List.append_assoc, List.cons_append, Nodes]
    exact ⟨kv', _, rfl, h1, Nodes.snoc ht r rest h2⟩
/-- one tree more: behind an append -/
theorem RowX.snoc {S : Nat → Prop} {W w' : World} {l : List T} {kv : Value} {xs : List Value} {t : T} {tkv : Value} (h1 : W.ownsRow 0 25 9 kv l.length xs) (h2 : ∀ b, kv.ownBlock = some b → S b) (h3 : Nodes (fun b => S b ∧ kv.ownBlock ≠ some b) W l xs)
    (ht : Row (fun b => S b ∧ kv.ownBlock ≠ some b) W t.kids tkv) {g cap H n : Nat} (hn : n = l.length + 1) (hown : w'.ownsRow 0 25 9 (.slice (some ⟨g, 0, none⟩) n cap) n (xs ++ nodeCells t tkv)) (hgrow : W.grownBy w' kv.ownBlock) (hat : kv.ownBlock = some g ∨ g = H) (hH : H = W.heap.size) :
    RowX (fun b => S b ∨ b = H) w' (l ++ [t]) (.slice (some ⟨g, 0, none⟩) n cap) := by
  subst hn
  refine ⟨xs ++ nodeCells t tkv, by rw [List.length_append]; exact hown, ?_, ?_⟩
  · intro b hb
    have e : g = b := by simpa [Value.ownBlock] using hb
    subst e
    rcases hat with h | h
    · exact .inl (h2 _ h)
    · exact .inr h
  · refine Nodes.keep ?_ ?_ (l ++ [t]) _ (Nodes.snoc ht l xs h3)
    · intro b hb hlt
      refine ⟨.inl hb.1, ?_⟩
      intro e
      have e' : g = b := by simpa [Value.ownBlock] using e
      subst e'
      rcases hat with h | h
      · exact hb.2 h
      · omega
    · intro b c hb hc
      rw [hgrow.block b (lt_heap hc) (Ne.symm hb.2)]
      exact hc
theorem node_ones (t : T) (a : Option Addr) (n cap : Nat) : ∀ u ∈ nodeCells t (.slice a n cap), u.oneCell' = true := by
  intro u hu
  simp only [nodeCells, List.mem_cons, List.not_mem_nil, or_false] at hu
  rcases hu with rfl | rfl | rfl | rfl | rfl | rfl | rfl | rfl | rfl <;> rfl
def encX (n : Nat) : World → List T → Value → Prop := fun w l v => ∃ a cap, v = .slice a l.length cap ∧ RowX (fun b => n ≤ b) w l v
theorem rowX_new1 {S : Nat → Prop} {w : World} {t : T} {a : Option Addr} {n c : Nat} (h : Row S w t.kids (.slice a n c)) {b : Nat} (hb : b = w.heap.size) {cs : Array Value} (hcs : cs = (nodeCells t (.slice a n c)).toArray) :
    RowX (fun i => S i ∨ i = b) (w.alloc (.cells cs 25)) [t] (.slice (some ⟨b, 0, none⟩) 1 1) := by
  subst hb; subst hcs
  obtain ⟨xs, h1, h2, h3⟩ := row_new (nodes_one h.lt) (show [t].length ≤ maxLen by simp [maxLen])
  refine ⟨nodeCells t (.slice a n c), ?_, fun b hb => .inr (by cases hb; rfl), ?_⟩
  · exact ⟨rfl, .inr ⟨w.heap.size, 1, _, rfl, Nat.zero_le _, obj_new _ _, Nat.le_refl _, by simp [maxLen], rfl, rfl⟩⟩
  · refine Nodes.keep ?_ ?_ [t] _ (nodes_one h.lt)
    · intro b hb hlt
      refine ⟨.inl hb.1, ?_⟩
      intro e
      have e' : w.heap.size = b := by simpa [Value.ownBlock] using e
      have := hb.2
      omega
    · intro b c hb hc
      exact obj_old hc _

theorem append_row {w3 w9 : World} {l : List T} {kv : Value} {xs : List Value} {lo hi : Nat} {t : T} {tkv : Value} {o : Obj} {g9 cap9 : Nat} (hx1 : w3.ownsRow 0 25 9 kv l.length xs) (hx2 : ∀ b, kv.ownBlock = some b → lo ≤ b ∧ b < hi)
    (hx3 : Nodes (fun b => (lo ≤ b ∧ b < hi) ∧ kv.ownBlock ≠ some b) w3 l xs) (ht : Row (fun b => hi ≤ b ∧ b < w3.heap.size) w3 t.kids tkv) (hlo : lo ≤ hi) (hhi : hi ≤ w3.heap.size)
    (hown : w9.ownsRow 0 25 9 (.slice (some ⟨g9, 0, none⟩) (l.length + 1) cap9) (l.length + 1) (xs ++ nodeCells t tkv)) (hgrow : (w3.alloc o).grownBy w9 kv.ownBlock) (hat : kv.ownBlock = some g9 ∨ g9 = w3.heap.size + 1) :
    RowX (fun b => lo ≤ b) w9 (l ++ [t]) (.slice (some ⟨g9, 0, none⟩) (l.length + 1) cap9) := by
  refine RowX.mono (RowX.snoc (S := fun b => lo ≤ b ∧ b < w3.heap.size) (W := w3.alloc o) (hx1.alloc o) ?_ ?_ ?_ rfl hown hgrow hat (by simp)) ?_
  · intro b hb
    have := hx2 b hb
    exact ⟨this.1, by omega⟩
  · exact Nodes.keep (fun b hb _ => ⟨⟨hb.1.1, by have := hb.1.2; omega⟩, hb.2⟩) (fun _ _ _ hb => obj_old hb o) l xs hx3
  · refine (ht.keep (S' := fun b => (lo ≤ b ∧ b < w3.heap.size) ∧ kv.ownBlock ≠ some b) ?_ (fun _ _ _ hb => obj_old hb o))
    intro b hb _
    refine ⟨⟨by have := hb.1; omega, hb.2⟩, fun e => ?_⟩
    have := hx2 b e
    have := hb.1
    omega
  · intro b hb
    rcases hb with hb | hb
    · exact hb.1
    · omega
theorem append_fin {B E g : Nat} {w w3 w9 : World} {s : St} {n : Nat} {kv : Value} {xs : List Value} {lo hi : Nat} {o : Obj} (hS : Stays B none w w3) (hR : RdAt B E g w3 s) (hg : g < w.heap.size) (hlo : w.heap.size ≤ lo) (hx1 : w3.ownsRow 0 25 9 kv n xs) (hx2 : ∀ b, kv.ownBlock = some b → lo ≤ b ∧ b < hi)
    (hgrow : (w3.alloc o).grownBy w9 kv.ownBlock) : Stays B none w w9 ∧ RdAt B E g w9 s := by
  refine ⟨(hS.alloc o).grown hgrow (fun k hk => .inl (by have := hx2 k hk; omega)), hR.locals (((Locals.refl g w3).alloc o).grown hgrow (fun k hk => ⟨by have := hx2 k hk; omega, fun cs t fz ht => ?_⟩))⟩
  obtain ⟨-, c, f, hc⟩ := row_obj hx1 k hk
  rw [obj_old hc o] at ht
  cases ht
  decide

/-- the parts that are read, and what is left -/
structure SepOk (l : List T) (k : Nat) (s : St) : Prop where
  a : left s + 1 ≤ k
  b : l.length + left s ≤ 1501

set_option maxRecDepth 100000 in
set_option maxHeartbeats 4000000 in
theorem separated_rd {B E g : Nat} {w : World} {s : St} (h : RdAt B E g w s) (F : FuncId) (hcf : ∀ (args : Array Value) (w : World), (callFunc F args).run Tryz.prog w = .ok (.enter F args) w) (m : St → Res T) (hm : ∀ s, Px.Suf (m s) s)
    (hF : ∀ w' s', RdAt B E g w' s' → Calls Tryz.prog F #[.pointer (some ⟨g, 0, none⟩)] w' (Says B E g w' (encT w'.heap.size) (m s'))) :
    Calls Tryz.prog 139 #[.pointer (some ⟨g, 0, none⟩), .func (Fn.func F) #[.pointer (some ⟨g, 0, none⟩)] #[]] w (Says B E g w (encX w.heap.size) (Px.separated E m s)) := by
  obtain ⟨i0, hi, hz0, hz1, hz2⟩ := info_parts infoNode
  have hok := Lib.hid h.ok.len
  have Hm := Lib.hid hm
  have HF := Lib.hid hF
  clear hF hm
  have hlt := h.lt
  have hB := h.le
  have HR := Lib.hid h
  have HS := Lib.hid (Stays.refl B none w)
  clear h
  obtain ⟨R, hR⟩ : ∃ R, R = Px.separated E m s := ⟨_, rfl⟩
  rw [← hR]
  unfold Px.separated at hR
  have HX := Lib.hid hR
  clear hR
  go_enter Tryz.func139, Tryz.ntmps139
  go_wp2_with fail
  refine (HF.out _ _ (HR.out.locals (by (exact Locals.au)))).mono ?_
  intro e1 w1 hm1
  refine hm1.cases ?_ ?_
  rotate_left
  focus (intro db sb hrb heb hRb hSb; subst heb; go_wp2_with fail; ((try simp only [Exit.inBlock, Exit.then]); refine post_panic rfl ?_); exact Says.bad (HX.out.trans (Res.bind_of_bad hrb _)) (Stays.trans (a := w) (by (exact Stays.au)) hSb) hRb)
  intro a1 s1 v1 hr1 he1 hv1 hR1 hS1
  subst he1
  have HX := Lib.hid (HX.out.trans (Res.bind_of_ok hr1 _))
  have HR := Lib.hid hR1
  have HS := Lib.hid (Stays.trans (a := w) (by (exact Stays.au)) hS1)
  have Hr1 := Lib.hid hr1
  have hs1 := hS1.size
  (try simp at hs1)
  clear hm1 hr1 hR1
  obtain ⟨p1, c1, rfl, hw1⟩ := hv1
  have Hw1 := Lib.hid hw1.lt
  clear hw1
  unfold nodeVal
  have hl1 := Hm.out s
  rw [Hr1.out] at hl1
  have HO := Lib.hid (show SepOk [a1] (s1.toks.length + 1) s1 from ⟨Nat.le_refl _, by have := List.IsSuffix.length_le hl1; have := hok.out; simp [Px.Res.st] at *; unfold Px.left; omega⟩)
  clear hl1
  go_wp2_with fail
  go_loopw [5] (fun kv wr => ∃ (k : Nat) (l : List T) (sr : St) (a : Option Addr) (cap : Nat), kv = .slice a l.length cap ∧ Hid (R = Px.sepGo E m k l sr) ∧ Hid (RdAt B E g wr sr) ∧ Hid (Stays B none w wr) ∧ Hid (SepOk l k sr) ∧ Hid (RowX (fun b => w.heap.size ≤ b) wr l (.slice a l.length cap))) (fun _ wr => tokLen g wr)
  case atStart =>
    refine ⟨_, [a1], s1, some ⟨w1.heap.size, 0, none⟩, 1, rfl, HX, Lib.hid (HR.out.locals (by (exact Locals.au))), Lib.hid (by (exact Stays.au)), HO, Lib.hid ?_⟩
    refine RowX.mono (rowX_new1 Hw1.out rfl rfl) ?_
    intro b hb; (try simp at hb); omega
  case round =>
    obtain ⟨k, l, sr, a, cap, rfl, HX, HR, HS, HO, Hw⟩ := hrel
    obtain ⟨k2, rfl⟩ : ∃ k2, k = k2 + 1 := ⟨k - 1, by have := HO.out.a; omega⟩
    have HX := Lib.hid (show R = if Px.accepts E [44] sr then (m (Px.rest sr)).bind fun t s => Px.sepGo E m k2 (l ++ [t]) s else .ok l sr from HX.out)
    have hT0 := Lib.hid HR.out.tokLen
    have hSr := Lib.hid HS.out.size
    go_wp2_with fail
    refine (accept_any (HR.out.locals (by (exact Locals.au))) [44] (by decide)).mono ?_
    rintro e2 w2 ⟨rfl, hS2, hR2⟩
    have HR := Lib.hid hR2
    have HS := Lib.hid (Stays.trans (a := w) (by (exact Stays.au)) hS2)
    have hs2 := hS2.size
    (try simp at hs2)
    clear hR2
    cases hac : Px.accepts E [44] sr
    · have HR := Lib.hid (show RdAt B E g w2 sr by have := HR.out; unfold Px.accepted at this; rw [if_neg (by rw [hac]; decide)] at this; exact this)
      have HX := Lib.hid (HX.out.trans (if_neg (by rw [hac]; decide)))
      clear hac
      go_wp2_with fail
      go_ret
      exact Says.ok HX.out HS.out ⟨a, cap, rfl, (Hw.out.stays hS2)⟩ HR.out
    · have HR := Lib.hid (show RdAt B E g w2 (Px.rest sr) by have := HR.out; unfold Px.accepted at this; rw [if_pos hac] at this; exact this)
      have HX := Lib.hid (HX.out.trans (if_pos hac))
      have hl2 := Lib.hid (Px.acc_left hac (by decide))
      clear hac
      go_wp2_with fail
      refine (HF.out _ _ (HR.out.locals (by (exact Locals.au)))).mono ?_
      intro e3 w3 hm3
      refine hm3.cases ?_ ?_
      rotate_left
      focus (intro db sb hrb heb hRb hSb; subst heb; go_wp2_with fail; ((try simp only [Exit.inBlock, Exit.then]); refine post_panic rfl ?_); exact Says.bad (HX.out.trans (Res.bind_of_bad hrb _)) (Stays.trans (a := w) (by (exact Stays.au)) hSb) hRb)
      intro a3 s3 v3 hr3 he3 hv3 hR3 hS3
      subst he3
      have HX := Lib.hid (HX.out.trans (Res.bind_of_ok hr3 _))
      have HR := Lib.hid hR3
      have HS := Lib.hid (Stays.trans (a := w) (by (exact Stays.au)) hS3)
      have Hr3 := Lib.hid hr3
      have hs3 := hS3.size
      (try simp at hs3)
      clear hm3 hr3 hR3
      obtain ⟨p3, c3, rfl, hw3⟩ := hv3
      have Hw3 := Lib.hid hw3.lt
      clear hw3
      unfold nodeVal
      have hl3 := Hm.out (Px.rest sr)
      rw [Hr3.out] at hl3
      have hl4 := Lib.hid (show left s3 ≤ left (Px.rest sr) from List.IsSuffix.length_le hl3)
      clear hl3
      obtain ⟨xs, hx1, hx2, hx3⟩ := ((Hw.out.lt.stays hS2).stays hS3)
      have Hx1 := Lib.hid hx1
      have Hx2 := Lib.hid hx2
      have Hx3 := Lib.hid hx3
      have hlen : l.length ≤ 1500 := by have := HO.out.b; have := hl2.out; omega
      clear hx1 hx2 hx3
      go_wp2_with (first | (at_builtin; (refine wpList_append_lies _ (by rfl) (.tmp 11) (.tmp 14) 23 (by rfl) 0 25 i0 _ 9 104 Tryz.underlying23 hi hz0 hz1 hz2 (by rfl) (by omega) (.slice a l.length cap) l.length xs (by rfl) (Hx1.out.alloc _) ⟨w3.heap.size, 0, none⟩ 1 1 (nodeCells a3 (.slice p3 a3.kids.length c3)) (by rfl) (by rfl) (World.news_of_block (cs := (nodeCells a3 (.slice p3 a3.kids.length c3)).toArray) (t := 25) (fr := (0, 0)) (heap_alloc_new w3 _)) (node_ones _ _ _ _) (by omega) (by unfold maxLen; omega) (by omega) (by omega) (w3.heap.size + 1) (by simp) ?_); intro g9 cap9 w9 hown9 hgrow9 hat9 hlt9; have Hown9 := Lib.hid hown9; have Hgrow9 := Lib.hid hgrow9; have Hat9 := Lib.hid hat9; clear hown9 hgrow9 hat9))
      obtain ⟨hS9, hR9⟩ := append_fin HS.out HR.out hlt (Nat.le_refl _) Hx1.out Hx2.out Hgrow9.out
      refine ⟨⟨k2, l ++ [a3], s3, some ⟨g9, 0, none⟩, cap9, by rw [List.length_append]; rfl, HX, Lib.hid hR9, Lib.hid hS9, Lib.hid ⟨?_, ?_⟩, Lib.hid ?_⟩, ?_⟩
      · have := HO.out.a; have := hl2.out; have := hl4.out; omega
      · have := HO.out.b; have := hl2.out; have := hl4.out; simp; omega
      · rw [List.length_append]
        exact append_row Hx1.out Hx2.out Hx3.out (Row.mono Hw3.out (fun b hb => ⟨by have := hb.1; omega, hb.2⟩)) (by have := HS.out.size; have := hSr.out; omega) (by omega) Hown9.out Hgrow9.out Hat9.out
      · rw [hR9.tokLen, hT0.out]
        have := hl2.out; have := hl4.out; omega
end Go.Proofs.YtbgpboiblggmiaaGreatDoor

/-
  Walks over the reader's tuple, list, units.
-/
namespace Go.Proofs.YtbgpboiblggmiaaGreatDoor
open Go.RowKit
open Px (St T D Res left Takes)

set_option maxRecDepth 100000 in
set_option maxHeartbeats 2000000 in
theorem tuple_rd {B E g : Nat} {w : World} {s : St} (h : RdAt B E g w s) (F : FuncId) (hcf : ∀ (args : Array Value) (w : World), (callFunc F args).run Tryz.prog w = .ok (.enter F args) w) (m : St → Res T) (hm : ∀ s, Px.Suf (m s) s)
    (hF : ∀ w' s', RdAt B E g w' s' → Calls Tryz.prog F #[.pointer (some ⟨g, 0, none⟩)] w' (Says B E g w' (encT w'.heap.size) (m s'))) :
    Calls Tryz.prog 115 #[.pointer (some ⟨g, 0, none⟩), .func (Fn.func F) #[.pointer (some ⟨g, 0, none⟩)] #[]] w (Says B E g w (encX w.heap.size) (Px.tuple E m s)) := by
  have Hm := Lib.hid hm
  have HF := Lib.hid hF
  have Hcf := Lib.hid hcf
  clear hF hm hcf
  have hlt := h.lt
  have hB := h.le
  have HR := Lib.hid h
  have HS := Lib.hid (Stays.refl B none w)
  clear h
  obtain ⟨R, hR⟩ : ∃ R, R = Px.tuple E m s := ⟨_, rfl⟩
  rw [← hR]
  unfold Px.tuple at hR
  have HX := Lib.hid hR
  clear hR
  go_enter Tryz.func115, Tryz.ntmps115
  go_wp2_with fail
  refine (expect_any (HR.out.locals (by (exact Locals.au))) [40] (by decide)).mono ?_
  intro e1 w1 hm1
  refine hm1.cases ?_ ?_
  rotate_left
  focus (intro db sb hrb heb hRb hSb; subst heb; go_wp2_with fail; ((try simp only [Exit.inBlock, Exit.then]); refine post_panic rfl ?_); exact Says.bad (HX.out.trans (Res.bind_of_bad hrb _)) (Stays.trans (a := w) (by (exact Stays.au)) hSb) hRb)
  intro a1 s1 v1 hr1 he1 hv1 hR1 hS1
  subst he1
  have HX := Lib.hid (HX.out.trans (Res.bind_of_ok hr1 _))
  have HR := Lib.hid hR1
  have HS := Lib.hid (Stays.trans (a := w) (by (exact Stays.au)) hS1)
  have Hr1 := Lib.hid hr1
  have hs1 := hS1.size
  (try simp at hs1)
  clear hm1 hr1 hR1
  obtain rfl := hv1
  go_wp2_with fail
  refine (accept_any (HR.out.locals (by (exact Locals.au))) [41] (by decide)).mono ?_
  rintro e2 w2 ⟨rfl, hS2, hR2⟩
  have HR := Lib.hid hR2
  have HS := Lib.hid (Stays.trans (a := w) (by (exact Stays.au)) hS2)
  have hs2 := hS2.size
  (try simp at hs2)
  clear hR2
  cases hac : Px.accepts E [41] s1
  · have HR := Lib.hid (show RdAt B E g w2 s1 by have := HR.out; unfold Px.accepted at this; rw [if_neg (by rw [hac]; decide)] at this; exact this)
    have HX := Lib.hid (HX.out.trans (if_neg (by rw [hac]; decide)))
    clear hac
    go_wp2_with fail
    refine (separated_rd (HR.out.locals (by (exact Locals.au))) F Hcf.out m Hm.out HF.out).mono ?_
    intro e3 w3 hm3
    refine hm3.cases ?_ ?_
    rotate_left
    focus (intro db sb hrb heb hRb hSb; subst heb; go_wp2_with fail; ((try simp only [Exit.inBlock, Exit.then]); refine post_panic rfl ?_); exact Says.bad (HX.out.trans (Res.bind_of_bad hrb _)) (Stays.trans (a := w) (by (exact Stays.au)) hSb) hRb)
    intro a3 s3 v3 hr3 he3 hv3 hR3 hS3
    subst he3
    have HX := Lib.hid (HX.out.trans (Res.bind_of_ok hr3 _))
    have HR := Lib.hid hR3
    have HS := Lib.hid (Stays.trans (a := w) (by (exact Stays.au)) hS3)
    have Hr3 := Lib.hid hr3
    have hs3 := hS3.size
    (try simp at hs3)
    clear hm3 hr3 hR3
    obtain ⟨a, cap, rfl, hw3⟩ := hv3
    have Hw3 := Lib.hid hw3
    clear hw3
    go_wp2_with fail
    refine (expect_any (HR.out.locals (by (exact Locals.au))) [41] (by decide)).mono ?_
    intro e4 w4 hm4
    refine hm4.cases ?_ ?_
    rotate_left
    focus (intro db sb hrb heb hRb hSb; subst heb; go_wp2_with fail; ((try simp only [Exit.inBlock, Exit.then]); refine post_panic rfl ?_); exact Says.bad (HX.out.trans (Res.bind_of_bad hrb _)) (Stays.trans (a := w) (by (exact Stays.au)) hSb) hRb)
    intro a4 s4 v4 hr4 he4 hv4 hR4 hS4
    subst he4
    have HX := Lib.hid (HX.out.trans (Res.bind_of_ok hr4 _))
    have HR := Lib.hid hR4
    have HS := Lib.hid (Stays.trans (a := w) (by (exact Stays.au)) hS4)
    have Hr4 := Lib.hid hr4
    have hs4 := hS4.size
    (try simp at hs4)
    clear hm4 hr4 hR4
    obtain rfl := hv4
    go_wp2_with fail
    go_ret
    exact Says.ok HX.out HS.out ⟨a, cap, rfl, (Hw3.out.stays hS4).mono (fun b hb => by omega)⟩ HR.out
  · have HR := Lib.hid (show RdAt B E g w2 (Px.rest s1) by have := HR.out; unfold Px.accepted at this; rw [if_pos hac] at this; exact this)
    have HX := Lib.hid (HX.out.trans (if_pos hac))
    clear hac
    go_wp2_with fail
    go_ret
    exact Says.ok HX.out HS.out ⟨none, 0, rfl, RowX.nil _ _⟩ HR.out

/-- the items that are read, and what is left -/
structure ListOk (N : Nat) (l : List T) (k : Nat) (s : St) : Prop where
  a : left s + 1 ≤ k
  b : l.length + left s ≤ 1500
  c : left s ≤ N

set_option maxRecDepth 100000 in
set_option maxHeartbeats 6000000 in
theorem list_rd {B E g N : Nat} {w : World} {s : St} (h : RdAt B E g w s) (F : FuncId) (hcf : ∀ (args : Array Value) (w : World), (callFunc F args).run Tryz.prog w = .ok (.enter F args) w) (rd : St → Res T) (hm : Takes rd)
    (hF : ∀ w' s', RdAt B E g w' s' → left s' ≤ N → Calls Tryz.prog F #[.pointer (some ⟨g, 0, none⟩)] w' (Says B E g w' (encT w'.heap.size) (rd s'))) (hN : left s ≤ N + 1) :
    Calls Tryz.prog 112 #[.pointer (some ⟨g, 0, none⟩), .func (Fn.func F) #[.pointer (some ⟨g, 0, none⟩)] #[]] w (Says B E g w (encX w.heap.size) (Px.list E rd s)) := by
  obtain ⟨i0, hi, hz0, hz1, hz2⟩ := info_parts infoNode
  have hok := Lib.hid h.ok.len
  have Hm := Lib.hid hm
  have HF := Lib.hid hF
  have HN := Lib.hid hN
  have Hcf := Lib.hid hcf
  clear hF hm hN hcf
  have hlt := h.lt
  have hB := h.le
  have HR := Lib.hid h
  have HS := Lib.hid (Stays.refl B none w)
  clear h
  obtain ⟨R, hR⟩ : ∃ R, R = Px.list E rd s := ⟨_, rfl⟩
  rw [← hR]
  unfold Px.list at hR
  have HX := Lib.hid hR
  clear hR
  go_enter Tryz.func112, Tryz.ntmps112
  go_wp2_with fail
  refine (expect_any (HR.out.locals (by (exact Locals.au))) [123] (by decide)).mono ?_
  intro e1 w1 hm1
  refine hm1.cases ?_ ?_
  rotate_left
  focus (intro db sb hrb heb hRb hSb; subst heb; go_wp2_with fail; ((try simp only [Exit.inBlock, Exit.then]); refine post_panic rfl ?_); exact Says.bad (HX.out.trans (Res.bind_of_bad hrb _)) (Stays.trans (a := w) (by (exact Stays.au)) hSb) hRb)
  intro a1 s1 v1 hr1 he1 hv1 hR1 hS1
  subst he1
  have HX := Lib.hid (HX.out.trans (Res.bind_of_ok hr1 _))
  have HR := Lib.hid hR1
  have HS := Lib.hid (Stays.trans (a := w) (by (exact Stays.au)) hS1)
  have Hr1 := Lib.hid hr1
  have hs1 := hS1.size
  (try simp at hs1)
  clear hm1 hr1 hR1
  obtain rfl := hv1
  have HO := Lib.hid (show ListOk N [] (s1.toks.length + 1) s1 from ⟨Nat.le_refl _, by have := Px.expect_left Hr1.out (by decide); have := hok.out; unfold Px.left at *; simp; omega, by have := Px.expect_left Hr1.out (by decide); have := HN.out; omega⟩)
  go_wp2_with fail
  go_loopw [5] (fun kv wr => ∃ (k : Nat) (l : List T) (sr : St) (a : Option Addr) (cap : Nat), kv = .slice a l.length cap ∧ Hid (R = Px.listGo E rd k l sr) ∧ Hid (RdAt B E g wr sr) ∧ Hid (Stays B none w wr) ∧ Hid (ListOk N l k sr) ∧ Hid (RowX (fun b => w.heap.size ≤ b) wr l (.slice a l.length cap))) (fun _ wr => tokLen g wr)
  case atStart =>
    exact ⟨_, [], s1, none, 0, rfl, HX, HR, HS, HO, Lib.hid (RowX.nil _ _)⟩
  case round =>
    obtain ⟨k, l, sr, a, cap, rfl, HX, HR, HS, HO, Hw⟩ := hrel
    obtain ⟨k2, rfl⟩ : ∃ k2, k = k2 + 1 := ⟨k - 1, by have := HO.out.a; omega⟩
    have hx := HX.out
    rw [Px.listGo] at hx
    have HX := Lib.hid hx
    clear hx
    have hT0 := Lib.hid HR.out.tokLen
    have hSr := Lib.hid HS.out.size
    go_wp2_with fail
    refine (accept_any (HR.out.locals (by (exact Locals.au))) [125] (by decide)).mono ?_
    rintro e2 w2 ⟨rfl, hS2, hR2⟩
    have HR := Lib.hid hR2
    have HS := Lib.hid (Stays.trans (a := w) (by (exact Stays.au)) hS2)
    have hs2 := hS2.size
    (try simp at hs2)
    clear hR2
    cases hac : Px.accepts E [125] sr
    · have HR := Lib.hid (show RdAt B E g w2 sr by have := HR.out; unfold Px.accepted at this; rw [if_neg (by rw [hac]; decide)] at this; exact this)
      have HX := Lib.hid (HX.out.trans (if_neg (by rw [hac]; decide)))
      cases hts : sr.toks with
      | nil =>
        have hx := HX.out
        rw [hts] at hx
        have HD := Lib.hid hx
        have he : sr.toks.isEmpty = true := by rw [hts]; rfl
        clear hac hts hx
        go_wp2_with fail
        refine (ended_any HR.out).mono ?_
        rintro e3 w3 ⟨rfl, rfl⟩
        go_wp2_with fail
        refine (wrong_any HR.out).mono ?_
        rintro e4 w4 ⟨rfl, hS4, hR4⟩
        go_wp2_with fail
        ((try simp only [Exit.inBlock, Exit.then]); refine post_panic rfl ?_)
        exact Says.bad HD.out (HS.out.trans hS4) hR4
      | cons t r =>
        have hx := HX.out
        rw [hts] at hx
        have HX := Lib.hid (show R = Px.listGo E rd k2 (Px.more l (Px.item rd true sr).1) (Px.item rd true sr).2 from hx)
        have he : sr.toks.isEmpty = false := by rw [hts]; rfl
        have hil := Lib.hid (Px.item_left Hm.out (b := true) (s := sr) (by rw [hts]; simp) (.inr hac))
        clear hac hts hx
        go_wp2_with fail
        refine (ended_any HR.out).mono ?_
        rintro e3 w3 ⟨rfl, rfl⟩
        go_wp2_with fail
        refine (item_rd HR.out F Hcf.out (rd sr) (fun w' h' => HF.out w' sr h' HO.out.c) true).mono ?_
        intro e4 w4 hm4
        unfold ItemSaid at hm4
        obtain ⟨hS4, hm4⟩ := hm4
        cases hr4 : rd sr with
        | ok a4 s4 =>
          rw [hr4] at hm4
          obtain ⟨p4, c4, rfl, hw4, hR4⟩ := hm4
          have hit : Px.item rd true sr = (some a4, s4) := by unfold Px.item; rw [hr4]
          rw [hit] at HX hil
          have HX := Lib.hid (show R = Px.listGo E rd k2 (l ++ [a4]) s4 from HX.out)
          have hil := Lib.hid (show left s4 < left sr from hil.out)
          have HR := Lib.hid hR4
          have HS := Lib.hid (HS.out.trans hS4)
          have Hw4 := Lib.hid hw4.lt
          obtain ⟨xs, hx1, hx2, hx3⟩ := ((Hw.out.lt.stays hS2).stays hS4)
          have Hx1 := Lib.hid (hx1.alloc (.cells (nodeCells a4 (.slice p4 a4.kids.length c4)).toArray 25))
          have Hx2 := Lib.hid hx2
          have Hx3 := Lib.hid hx3
          have hlen : l.length ≤ 1500 := by have := HO.out.b; omega
          have hs4 := hS4.size
          have Hnb := Lib.hid (show ((w4.alloc (.cells (nodeCells a4 (.slice p4 a4.kids.length c4)).toArray 25)).alloc (.cells (nodeCells a4 (.slice p4 a4.kids.length c4)).toArray 25)).heap[w4.heap.size + 1]? = some (.cells (nodeCells a4 (.slice p4 a4.kids.length c4)).toArray 25 (0, 0)) from by
            have := obj_new (w4.alloc (.cells (nodeCells a4 (.slice p4 a4.kids.length c4)).toArray 25)) (.cells (nodeCells a4 (.slice p4 a4.kids.length c4)).toArray 25)
            rw [World.size_alloc] at this
            exact this)
          clear hx1 hx2 hx3 hw4 hR4 hit hr4
          unfold nodeVal
          go_wp2_with (first | (at_builtin; (refine wpList_append_lies _ (by rfl) (.tmp 24) (.tmp 26) 23 (by rfl) 0 25 i0 _ 9 104 Tryz.underlying23 hi hz0 hz1 hz2 (by rfl) (by omega) (.slice a l.length cap) l.length xs (by rfl) (Hx1.out.alloc _) ⟨w4.heap.size + 1, 0, none⟩ 1 1 (nodeCells a4 (.slice p4 a4.kids.length c4)) (by rfl) (by rfl) (World.news_of_block (cs := (nodeCells a4 (.slice p4 a4.kids.length c4)).toArray) (t := 25) (fr := (0, 0)) Hnb.out) (node_ones _ _ _ _) (by omega) (by unfold maxLen; omega) (by omega) (by omega) (w4.heap.size + 2) (by simp) ?_); intro g9 cap9 w9 hown9 hgrow9 hat9 hlt9; have Hown9 := Lib.hid hown9; have Hgrow9 := Lib.hid hgrow9; have Hat9 := Lib.hid hat9; clear hown9 hgrow9 hat9))
          obtain ⟨hS9, hR9⟩ := append_fin (w3 := w4.alloc (.cells (nodeCells a4 (.slice p4 a4.kids.length c4)).toArray 25)) (HS.out.alloc _) (HR.out.locals ((Locals.refl _ _).alloc _)) hlt (Nat.le_refl _) Hx1.out Hx2.out Hgrow9.out
          refine ⟨⟨k2, l ++ [a4], s4, some ⟨g9, 0, none⟩, cap9, by rw [List.length_append]; rfl, HX, Lib.hid hR9, Lib.hid hS9, Lib.hid ⟨?_, ?_, ?_⟩, Lib.hid ?_⟩, ?_⟩
          · have := HO.out.a; have := hil.out; omega
          · have := HO.out.b; have := hil.out; simp; omega
          · have := HO.out.c; have := hil.out; omega
          · rw [List.length_append]
            refine append_row (w3 := w4.alloc (.cells (nodeCells a4 (.slice p4 a4.kids.length c4)).toArray 25)) Hx1.out Hx2.out (Nodes.keep (fun _ h _ => h) (fun _ _ _ hb => obj_old hb _) _ _ Hx3.out) (Row.mono (Hw4.out.alloc _) (fun b hb => ⟨by have := hb.1; omega, by have := hb.2; simp; omega⟩)) (by have := hSr.out; omega) (by simp; omega) Hown9.out Hgrow9.out ?_
            rcases Hat9.out with h | h
            · exact .inl h
            · right; rw [h]; simp
          · rw [hR9.tokLen, hT0.out]
            exact hil.out
        | bad d4 s4 =>
          rw [hr4] at hm4
          obtain ⟨rfl, hR4⟩ := hm4
          have hit : Px.item rd true sr = (none, ⟨Px.skipGo true s4.toks s4.braces, 0, Px.report d4 s4.diags⟩) := by unfold Px.item; rw [hr4]
          rw [hit] at HX hil
          have HX := Lib.hid (show R = Px.listGo E rd k2 l ⟨Px.skipGo true s4.toks s4.braces, 0, Px.report d4 s4.diags⟩ from HX.out)
          have hil := Lib.hid (show left ⟨Px.skipGo true s4.toks s4.braces, 0, Px.report d4 s4.diags⟩ < left sr from hil.out)
          have HR := Lib.hid hR4
          have HS := Lib.hid (HS.out.trans hS4)
          clear hR4 hit hr4
          unfold nodeVal
          go_wp2_with fail
          go_round
          case rel => exact ⟨k2, l, _, a, cap, rfl, HX, Lib.hid (HR.out.locals ((Locals.refl _ _).alloc _)), Lib.hid (HS.out.alloc _), Lib.hid ⟨by have := HO.out.a; have := hil.out; omega, by have := HO.out.b; have := hil.out; omega, by have := HO.out.c; have := hil.out; omega⟩, Lib.hid (((Hw.out.stays hS2).stays hS4).alloc _)⟩
          case measure => rw [(HR.out.locals ((Locals.refl _ _).alloc _)).tokLen, hT0.out]; exact hil.out
    · have HR := Lib.hid (show RdAt B E g w2 (Px.rest sr) by have := HR.out; unfold Px.accepted at this; rw [if_pos hac] at this; exact this)
      have HX := Lib.hid (HX.out.trans (if_pos hac))
      clear hac
      go_wp2_with fail
      go_ret
      exact Says.ok HX.out HS.out ⟨a, cap, rfl, Hw.out.stays hS2⟩ HR.out

set_option maxRecDepth 100000 in
set_option maxHeartbeats 6000000 in
theorem units_rd {B E g N : Nat} {w : World} {s : St} (h : RdAt B E g w s) (rd : St → Res T) (hm : Takes rd)
    (hF : ∀ w' s', RdAt B E g w' s' → left s' ≤ N → Calls Tryz.prog 53 #[.pointer (some ⟨g, 0, none⟩)] w' (Says B E g w' (encT w'.heap.size) (rd s'))) (hN : left s ≤ N) :
    Calls Tryz.prog 34 #[.pointer (some ⟨g, 0, none⟩)] w fun e w' => Stays B none w w' ∧ ∃ a cap, e = .returned (.slice a (Px.unitsGo rd (s.toks.length + 1) [] s).1.length cap) ∧ RowX (fun b => w.heap.size ≤ b) w' (Px.unitsGo rd (s.toks.length + 1) [] s).1 (.slice a (Px.unitsGo rd (s.toks.length + 1) [] s).1.length cap) ∧ RdAt B E g w' (Px.unitsGo rd (s.toks.length + 1) [] s).2 := by
  obtain ⟨i0, hi, hz0, hz1, hz2⟩ := info_parts infoNode
  have hmf : ∀ (fn : Fn) (first cap : Array Value) (w : World), (Instr.makeFunc fn first cap).run Tryz.prog w = .ok (.func fn first cap) w := fun _ _ _ _ => rfl
  have Hcf := Lib.hid (show ∀ (args : Array Value) (w : World), (callFunc 53 args).run Tryz.prog w = .ok (.enter 53 args) w from fun _ _ => by simp [go_sem])
  have hok := Lib.hid h.ok.len
  have Hm := Lib.hid hm
  have HF := Lib.hid hF
  have HO := Lib.hid (show ListOk N [] (s.toks.length + 1) s from ⟨Nat.le_refl _, by have := hok.out; unfold Px.left; simp; omega, hN⟩)
  clear hF hm hN
  have hlt := h.lt
  have hB := h.le
  have HR := Lib.hid h
  have HS := Lib.hid (Stays.refl B none w)
  clear h
  obtain ⟨R, hR⟩ : ∃ R, R = Px.unitsGo rd (s.toks.length + 1) [] s := ⟨_, rfl⟩
  rw [← hR]
  have HX := Lib.hid hR
  clear hR
  go_enter Tryz.func34, Tryz.ntmps34
  go_wp2_with fail
  go_loopw [3] (fun kv wr => ∃ (k : Nat) (l : List T) (sr : St) (a : Option Addr) (cap : Nat), kv = .slice a l.length cap ∧ Hid (R = Px.unitsGo rd k l sr) ∧ Hid (RdAt B E g wr sr) ∧ Hid (Stays B none w wr) ∧ Hid (ListOk N l k sr) ∧ Hid (RowX (fun b => w.heap.size ≤ b) wr l (.slice a l.length cap))) (fun _ wr => tokLen g wr)
  case atStart =>
    exact ⟨_, [], s, none, 0, rfl, HX, HR, HS, HO, Lib.hid (RowX.nil _ _)⟩
  case round =>
    obtain ⟨k, l, sr, a, cap, rfl, HX, HR, HS, HO, Hw⟩ := hrel
    obtain ⟨k2, rfl⟩ : ∃ k2, k = k2 + 1 := ⟨k - 1, by have := HO.out.a; omega⟩
    have hx := HX.out
    rw [Px.unitsGo] at hx
    have HX := Lib.hid hx
    clear hx
    have hT0 := Lib.hid HR.out.tokLen
    have hSr := Lib.hid HS.out.size
    cases hts : sr.toks with
    | nil =>
      have hx := HX.out
      rw [hts] at hx
      have HD := Lib.hid hx
      have he : sr.toks.isEmpty = true := by rw [hts]; rfl
      clear hts hx
      go_wp2_with fail
      refine (ended_any HR.out).mono ?_
      rintro e3 w3 ⟨rfl, rfl⟩
      go_wp2_with fail
      go_ret
      rw [HD.out]
      exact ⟨HS.out, a, cap, rfl, Hw.out, HR.out⟩
    | cons t r =>
      have hx := HX.out
      rw [hts] at hx
      have HX := Lib.hid (show R = Px.unitsGo rd k2 (Px.more l (Px.item rd false sr).1) (Px.item rd false sr).2 from hx)
      have he : sr.toks.isEmpty = false := by rw [hts]; rfl
      have hil := Lib.hid (Px.item_left (E := E) Hm.out (b := false) (s := sr) (by rw [hts]; simp) (.inl rfl))
      clear hts hx
      go_wp2_with fail
      refine (ended_any HR.out).mono ?_
      rintro e3 w3 ⟨rfl, rfl⟩
      go_wp2_with fail
      refine (item_rd HR.out 53 Hcf.out (rd sr) (fun w' h' => HF.out w' sr h' HO.out.c) false).mono ?_
      intro e4 w4 hm4
      unfold ItemSaid at hm4
      obtain ⟨hS4, hm4⟩ := hm4
      cases hr4 : rd sr with
      | ok a4 s4 =>
        rw [hr4] at hm4
        obtain ⟨p4, c4, rfl, hw4, hR4⟩ := hm4
        have hit : Px.item rd false sr = (some a4, s4) := by unfold Px.item; rw [hr4]
        rw [hit] at HX hil
        have HX := Lib.hid (show R = Px.unitsGo rd k2 (l ++ [a4]) s4 from HX.out)
        have hil := Lib.hid (show left s4 < left sr from hil.out)
        have HR := Lib.hid hR4
        have HS := Lib.hid (HS.out.trans hS4)
        have Hw4 := Lib.hid hw4.lt
        obtain ⟨xs, hx1, hx2, hx3⟩ := (Hw.out.lt.stays hS4)
        have Hx1 := Lib.hid (hx1.alloc (.cells (nodeCells a4 (.slice p4 a4.kids.length c4)).toArray 25))
        have Hx2 := Lib.hid hx2
        have Hx3 := Lib.hid hx3
        have hlen : l.length ≤ 1500 := by have := HO.out.b; omega
        have hs4 := hS4.size
        have Hnb := Lib.hid (show ((w4.alloc (.cells (nodeCells a4 (.slice p4 a4.kids.length c4)).toArray 25)).alloc (.cells (nodeCells a4 (.slice p4 a4.kids.length c4)).toArray 25)).heap[w4.heap.size + 1]? = some (.cells (nodeCells a4 (.slice p4 a4.kids.length c4)).toArray 25 (0, 0)) from by
          have := obj_new (w4.alloc (.cells (nodeCells a4 (.slice p4 a4.kids.length c4)).toArray 25)) (.cells (nodeCells a4 (.slice p4 a4.kids.length c4)).toArray 25)
          rw [World.size_alloc] at this
          exact this)
        clear hx1 hx2 hx3 hw4 hR4 hit hr4
        unfold nodeVal
        go_wp2_with (first | (at_builtin; (refine wpList_append_lies _ (by rfl) (.tmp 17) (.tmp 19) 23 (by rfl) 0 25 i0 _ 9 104 Tryz.underlying23 hi hz0 hz1 hz2 (by rfl) (by omega) (.slice a l.length cap) l.length xs (by rfl) (Hx1.out.alloc _) ⟨w4.heap.size + 1, 0, none⟩ 1 1 (nodeCells a4 (.slice p4 a4.kids.length c4)) (by rfl) (by rfl) (World.news_of_block (cs := (nodeCells a4 (.slice p4 a4.kids.length c4)).toArray) (t := 25) (fr := (0, 0)) Hnb.out) (node_ones _ _ _ _) (by omega) (by unfold maxLen; omega) (by omega) (by omega) (w4.heap.size + 2) (by simp) ?_); intro g9 cap9 w9 hown9 hgrow9 hat9 hlt9; have Hown9 := Lib.hid hown9; have Hgrow9 := Lib.hid hgrow9; have Hat9 := Lib.hid hat9; clear hown9 hgrow9 hat9))
        obtain ⟨hS9, hR9⟩ := append_fin (w3 := w4.alloc (.cells (nodeCells a4 (.slice p4 a4.kids.length c4)).toArray 25)) (HS.out.alloc _) (HR.out.locals ((Locals.refl _ _).alloc _)) hlt (Nat.le_refl _) Hx1.out Hx2.out Hgrow9.out
        refine ⟨⟨k2, l ++ [a4], s4, some ⟨g9, 0, none⟩, cap9, by rw [List.length_append]; rfl, HX, Lib.hid hR9, Lib.hid hS9, Lib.hid ⟨?_, ?_, ?_⟩, Lib.hid ?_⟩, ?_⟩
        · have := HO.out.a; have := hil.out; omega
        · have := HO.out.b; have := hil.out; simp; omega
        · have := HO.out.c; have := hil.out; omega
        · rw [List.length_append]
          refine append_row (w3 := w4.alloc (.cells (nodeCells a4 (.slice p4 a4.kids.length c4)).toArray 25)) Hx1.out Hx2.out (Nodes.keep (fun _ h _ => h) (fun _ _ _ hb => obj_old hb _) _ _ Hx3.out) (Row.mono (Hw4.out.alloc _) (fun b hb => ⟨by have := hb.1; omega, by have := hb.2; simp; omega⟩)) (by have := hSr.out; omega) (by simp; omega) Hown9.out Hgrow9.out ?_
          rcases Hat9.out with h | h
          · exact .inl h
          · right; rw [h]; simp
        · rw [hR9.tokLen, hT0.out]
          exact hil.out
      | bad d4 s4 =>
        rw [hr4] at hm4
        obtain ⟨rfl, hR4⟩ := hm4
        have hit : Px.item rd false sr = (none, ⟨Px.skipGo false s4.toks s4.braces, 0, Px.report d4 s4.diags⟩) := by unfold Px.item; rw [hr4]
        rw [hit] at HX hil
        have HX := Lib.hid (show R = Px.unitsGo rd k2 l ⟨Px.skipGo false s4.toks s4.braces, 0, Px.report d4 s4.diags⟩ from HX.out)
        have hil := Lib.hid (show left ⟨Px.skipGo false s4.toks s4.braces, 0, Px.report d4 s4.diags⟩ < left sr from hil.out)
        have HR := Lib.hid hR4
        have HS := Lib.hid (HS.out.trans hS4)
        clear hR4 hit hr4
        unfold nodeVal
        go_wp2_with fail
        go_round
        case rel => exact ⟨k2, l, _, a, cap, rfl, HX, Lib.hid (HR.out.locals ((Locals.refl _ _).alloc _)), Lib.hid (HS.out.alloc _), Lib.hid ⟨by have := HO.out.a; have := hil.out; omega, by have := HO.out.b; have := hil.out; omega, by have := HO.out.c; have := hil.out; omega⟩, Lib.hid ((Hw.out.stays hS4).alloc _)⟩
        case measure => rw [(HR.out.locals ((Locals.refl _ _).alloc _)).tokLen, hT0.out]; exact hil.out
end Go.Proofs.YtbgpboiblggmiaaGreatDoor

/-
  Walks over the statements and declarations that are a row of calls: claim, bare, named, call, record, lock, frame, module.
-/
namespace Go.Proofs.YtbgpboiblggmiaaGreatDoor
open Go.RowKit
open Px (St T D Res left Takes)

set_option maxRecDepth 100000 in
set_option maxHeartbeats 2000000 in
theorem claim_rd {B E g : Nat} {w : World} {s : St} (h : RdAt B E g w s) (q : Int) {t : Lx.Tok} {r : List Lx.Tok} (ht : s.toks = t :: r) :
    Calls Tryz.prog 135 #[.pointer (some ⟨g, 0, none⟩), .int .i64 q] w (Says B E g w (encT w.heap.size) (Px.claim E q s)) := by
  have Ht := Lib.hid ht
  clear ht
  have hlt := h.lt
  have hB := h.le
  have HR := Lib.hid h
  have HS := Lib.hid (Stays.refl B none w)
  clear h
  obtain ⟨R, hR⟩ : ∃ R, R = Px.claim E q s := ⟨_, rfl⟩
  rw [← hR]
  unfold Px.claim at hR
  have HX := Lib.hid hR
  clear hR
  go_enter Tryz.func135, Tryz.ntmps135
  go_wp2_with fail
  refine (begin_rd (HR.out.locals (by (exact Locals.au))) q Ht.out).mono ?_
  rintro e1 w1 ⟨rfl, hS1, hR1⟩
  unfold nodeVal
  have HR := Lib.hid hR1
  have HS := Lib.hid (Stays.trans (a := w) (by (exact Stays.au)) hS1)
  have hs1 := hS1.size
  (try simp at hs1)
  clear hR1
  have z0 : Var 25 w1 w.heap.size _ := Var.stays (by (exact Var.au)) hS1
  have z0l := z0.lt
  obtain ⟨z0c, z0f⟩ := obj_facts z0
  go_wp2_with fail
  refine (expr_any (HR.out.locals (by (exact Locals.au)))).mono ?_
  intro e2 w2 hm2
  refine hm2.cases ?_ ?_
  rotate_left
  focus (intro db sb hrb heb hRb hSb; subst heb; go_wp2_with fail; ((try simp only [Exit.inBlock, Exit.then]); refine post_panic rfl ?_); exact Says.bad (HX.out.trans (Res.bind_of_bad hrb _)) (Stays.trans (a := w) (by (exact Stays.au)) hSb) hRb)
  intro a2 s2 v2 hr2 he2 hv2 hR2 hS2
  subst he2
  have HX := Lib.hid (HX.out.trans (Res.bind_of_ok hr2 _))
  have HR := Lib.hid hR2
  have HS := Lib.hid (Stays.trans (a := w) (by (exact Stays.au)) hS2)
  have Hr2 := Lib.hid hr2
  have hs2 := hS2.size
  (try simp at hs2)
  clear hm2 hr2 hR2
  obtain ⟨p2, c2, rfl, hw2⟩ := hv2
  have Hw2 := Lib.hid hw2.lt
  clear hw2
  unfold nodeVal
  have z0' : Var 25 w2 w.heap.size _ := Var.stays (by (exact Var.au)) hS2
  clear z0 z0c z0f
  have z0 := z0'
  clear z0'
  have z0l := z0.lt
  obtain ⟨z0c, z0f⟩ := obj_facts z0
  have z1 : Var 25 w2 w1.heap.size _ := Var.stays (by (exact Var.au)) hS2
  have z1l := z1.lt
  obtain ⟨z1c, z1f⟩ := obj_facts z1
  go_wp2_with fail
  rw [storeF z1]
  go_wp2_with fail
  refine (expect_any (HR.out.locals (by (exact Locals.au))) [59] (by decide)).mono ?_
  intro e3 w3 hm3
  refine hm3.cases ?_ ?_
  rotate_left
  focus (intro db sb hrb heb hRb hSb; subst heb; go_wp2_with fail; ((try simp only [Exit.inBlock, Exit.then]); refine post_panic rfl ?_); exact Says.bad (HX.out.trans (Res.bind_of_bad hrb _)) (Stays.trans (a := w) (by (exact Stays.au)) hSb) hRb)
  intro a3 s3 v3 hr3 he3 hv3 hR3 hS3
  subst he3
  have HX := Lib.hid (HX.out.trans (Res.bind_of_ok hr3 _))
  have HR := Lib.hid hR3
  have HS := Lib.hid (Stays.trans (a := w) (by (exact Stays.au)) hS3)
  have Hr3 := Lib.hid hr3
  have hs3 := hS3.size
  (try simp at hs3)
  clear hm3 hr3 hR3
  obtain rfl := hv3
  have z0' : Var 25 w3 w.heap.size _ := Var.stays (by (exact Var.au)) hS3
  clear z0 z0c z0f
  have z0 := z0'
  clear z0'
  have z0l := z0.lt
  obtain ⟨z0c, z0f⟩ := obj_facts z0
  have z1' : Var 25 w3 w1.heap.size _ := Var.stays (by (exact Var.au)) hS3
  clear z1 z1c z1f
  have z1 := z1'
  clear z1'
  have z1l := z1.lt
  obtain ⟨z1c, z1f⟩ := obj_facts z1
  have Hn : Hid (Row _ w3 [a2] (.slice (some ⟨w2.heap.size, 0, none⟩) 1 1)) := Lib.hid (Row.stays (row_new' (l := [a2]) (b := w2.heap.size) (nodes_one (by (have QQ := Hw2; exact Row.au))) (by simp [maxLen]) (by simp) rfl) hS3)
  go_wp2_with fail
  (rw [storeN]; rotate_left; (exact HasN.au))
  ((try simp only [Exit.inBlock, Exit.then]); refine ret_node (by rfl) (by rfl) (by (exact Var.au)) (by first | rfl | simp) (by rfl) ?_)
  refine Says.ok HX.out (by (exact Stays.au)) ⟨_, _, rfl, (show Row _ _ [a2] (.slice (some ⟨w2.heap.size, 0, none⟩) 1 1) from Row.mono (by (have QQ := Hn; exact Row.au)) ?_)⟩ (HR.out.locals ?_)
  · intro b hb; (try simp at hb); omega
  · (exact Locals.au)

set_option maxRecDepth 100000 in
set_option maxHeartbeats 2000000 in
theorem bare_rd {B E g : Nat} {w : World} {s : St} (h : RdAt B E g w s) (q : Int) {t : Lx.Tok} {r : List Lx.Tok} (ht : s.toks = t :: r) :
    Calls Tryz.prog 175 #[.pointer (some ⟨g, 0, none⟩), .int .i64 q] w (Says B E g w (encT w.heap.size) (Px.bare E q s)) := by
  have Ht := Lib.hid ht
  clear ht
  have hlt := h.lt
  have hB := h.le
  have HR := Lib.hid h
  have HS := Lib.hid (Stays.refl B none w)
  clear h
  obtain ⟨R, hR⟩ : ∃ R, R = Px.bare E q s := ⟨_, rfl⟩
  rw [← hR]
  unfold Px.bare at hR
  have HX := Lib.hid hR
  clear hR
  go_enter Tryz.func175, Tryz.ntmps175
  go_wp2_with fail
  refine (begin_rd (HR.out.locals (by (exact Locals.au))) q Ht.out).mono ?_
  rintro e1 w1 ⟨rfl, hS1, hR1⟩
  unfold nodeVal
  have HR := Lib.hid hR1
  have HS := Lib.hid (Stays.trans (a := w) (by (exact Stays.au)) hS1)
  have hs1 := hS1.size
  (try simp at hs1)
  clear hR1
  have z0 : Var 25 w1 w.heap.size _ := Var.stays (by (exact Var.au)) hS1
  have z0l := z0.lt
  obtain ⟨z0c, z0f⟩ := obj_facts z0
  go_wp2_with fail
  refine (expect_any (HR.out.locals (by (exact Locals.au))) [59] (by decide)).mono ?_
  intro e3 w3 hm3
  refine hm3.cases ?_ ?_
  rotate_left
  focus (intro db sb hrb heb hRb hSb; subst heb; go_wp2_with fail; ((try simp only [Exit.inBlock, Exit.then]); refine post_panic rfl ?_); exact Says.bad (HX.out.trans (Res.bind_of_bad hrb _)) (Stays.trans (a := w) (by (exact Stays.au)) hSb) hRb)
  intro a3 s3 v3 hr3 he3 hv3 hR3 hS3
  subst he3
  have HX := Lib.hid (HX.out.trans (Res.bind_of_ok hr3 _))
  have HR := Lib.hid hR3
  have HS := Lib.hid (Stays.trans (a := w) (by (exact Stays.au)) hS3)
  have Hr3 := Lib.hid hr3
  have hs3 := hS3.size
  (try simp at hs3)
  clear hm3 hr3 hR3
  obtain rfl := hv3
  have z0' : Var 25 w3 w.heap.size _ := Var.stays (by (exact Var.au)) hS3
  clear z0 z0c z0f
  have z0 := z0'
  clear z0'
  have z0l := z0.lt
  obtain ⟨z0c, z0f⟩ := obj_facts z0
  have z1 : Var 25 w3 w1.heap.size _ := Var.stays (by (exact Var.au)) hS3
  have z1l := z1.lt
  obtain ⟨z1c, z1f⟩ := obj_facts z1
  go_wp2_with fail
  (rw [storeN]; rotate_left; (exact HasN.au))
  ((try simp only [Exit.inBlock, Exit.then]); refine ret_node (by rfl) (by rfl) (by (exact Var.au)) (by first | rfl | simp) (by rfl) ?_)
  refine Says.ok HX.out (by (exact Stays.au)) ⟨none, 0, rfl, Row.nil _ _⟩ (HR.out.locals ?_)
  (exact Locals.au)

set_option maxRecDepth 100000 in
set_option maxHeartbeats 2000000 in
theorem named_rd {B E g : Nat} {w : World} {s : St} (h : RdAt B E g w s) (q : Int) {t : Lx.Tok} {r : List Lx.Tok} (ht : s.toks = t :: r) (F : FuncId) (hcf : ∀ (args : Array Value) (w : World), (callFunc F args).run Tryz.prog w = .ok (.enter F args) w) (m : St → Res Px.Str)
    (hF : ∀ w' s', RdAt B E g w' s' → Calls Tryz.prog F #[.pointer (some ⟨g, 0, none⟩)] w' (Says B E g w' encS (m s'))) :
    Calls Tryz.prog 178 #[.pointer (some ⟨g, 0, none⟩), .int .i64 q, .func (Fn.func F) #[.pointer (some ⟨g, 0, none⟩)] #[]] w (Says B E g w (encT w.heap.size) (Px.named E q m s)) := by
  have Ht := Lib.hid ht
  have HF := Lib.hid hF
  clear ht hF
  have hlt := h.lt
  have hB := h.le
  have HR := Lib.hid h
  have HS := Lib.hid (Stays.refl B none w)
  clear h
  obtain ⟨R, hR⟩ : ∃ R, R = Px.named E q m s := ⟨_, rfl⟩
  rw [← hR]
  unfold Px.named at hR
  have HX := Lib.hid hR
  clear hR
  go_enter Tryz.func178, Tryz.ntmps178
  go_wp2_with fail
  refine (begin_rd (HR.out.locals (by (exact Locals.au))) q Ht.out).mono ?_
  rintro e1 w1 ⟨rfl, hS1, hR1⟩
  unfold nodeVal
  have HR := Lib.hid hR1
  have HS := Lib.hid (Stays.trans (a := w) (by (exact Stays.au)) hS1)
  have hs1 := hS1.size
  (try simp at hs1)
  clear hR1
  have z0 : Var 25 w1 w.heap.size _ := Var.stays (by (exact Var.au)) hS1
  have z0l := z0.lt
  obtain ⟨z0c, z0f⟩ := obj_facts z0
  go_wp2_with fail
  refine (HF.out _ _ (HR.out.locals (by (exact Locals.au)))).mono ?_
  intro e2 w2 hm2
  refine hm2.cases ?_ ?_
  rotate_left
  focus (intro db sb hrb heb hRb hSb; subst heb; go_wp2_with fail; ((try simp only [Exit.inBlock, Exit.then]); refine post_panic rfl ?_); exact Says.bad (HX.out.trans (Res.bind_of_bad hrb _)) (Stays.trans (a := w) (by (exact Stays.au)) hSb) hRb)
  intro a2 s2 v2 hr2 he2 hv2 hR2 hS2
  subst he2
  have HX := Lib.hid (HX.out.trans (Res.bind_of_ok hr2 _))
  have HR := Lib.hid hR2
  have HS := Lib.hid (Stays.trans (a := w) (by (exact Stays.au)) hS2)
  have Hr2 := Lib.hid hr2
  have hs2 := hS2.size
  (try simp at hs2)
  clear hm2 hr2 hR2
  obtain rfl := hv2
  have z0' : Var 25 w2 w.heap.size _ := Var.stays (by (exact Var.au)) hS2
  clear z0 z0c z0f
  have z0 := z0'
  clear z0'
  have z0l := z0.lt
  obtain ⟨z0c, z0f⟩ := obj_facts z0
  have z1 : Var 25 w2 w1.heap.size _ := Var.stays (by (exact Var.au)) hS2
  have z1l := z1.lt
  obtain ⟨z1c, z1f⟩ := obj_facts z1
  go_wp2_with fail
  rw [storeF z1]
  go_wp2_with fail
  refine (expect_any (HR.out.locals (by (exact Locals.au))) [59] (by decide)).mono ?_
  intro e3 w3 hm3
  refine hm3.cases ?_ ?_
  rotate_left
  focus (intro db sb hrb heb hRb hSb; subst heb; go_wp2_with fail; ((try simp only [Exit.inBlock, Exit.then]); refine post_panic rfl ?_); exact Says.bad (HX.out.trans (Res.bind_of_bad hrb _)) (Stays.trans (a := w) (by (exact Stays.au)) hSb) hRb)
  intro a3 s3 v3 hr3 he3 hv3 hR3 hS3
  subst he3
  have HX := Lib.hid (HX.out.trans (Res.bind_of_ok hr3 _))
  have HR := Lib.hid hR3
  have HS := Lib.hid (Stays.trans (a := w) (by (exact Stays.au)) hS3)
  have Hr3 := Lib.hid hr3
  have hs3 := hS3.size
  (try simp at hs3)
  clear hm3 hr3 hR3
  obtain rfl := hv3
  have z0' : Var 25 w3 w.heap.size _ := Var.stays (by (exact Var.au)) hS3
  clear z0 z0c z0f
  have z0 := z0'
  clear z0'
  have z0l := z0.lt
  obtain ⟨z0c, z0f⟩ := obj_facts z0
  have z1' : Var 25 w3 w1.heap.size _ := Var.stays (by (exact Var.au)) hS3
  clear z1 z1c z1f
  have z1 := z1'
  clear z1'
  have z1l := z1.lt
  obtain ⟨z1c, z1f⟩ := obj_facts z1
  go_wp2_with fail
  (rw [storeN]; rotate_left; (exact HasN.au))
  ((try simp only [Exit.inBlock, Exit.then]); refine ret_node (by rfl) (by rfl) (by (exact Var.au)) (by first | rfl | simp) (by rfl) ?_)
  refine Says.ok HX.out (by (exact Stays.au)) ⟨none, 0, rfl, Row.nil _ _⟩ (HR.out.locals ?_)
  (exact Locals.au)

set_option maxRecDepth 100000 in
set_option maxHeartbeats 2000000 in
theorem call_rd {B E g : Nat} {w : World} {s : St} (h : RdAt B E g w s) {t : Lx.Tok} {r : List Lx.Tok} (ht : s.toks = t :: r) :
    Calls Tryz.prog 181 #[.pointer (some ⟨g, 0, none⟩)] w (Says B E g w (encT w.heap.size) (Px.call E s)) := by
  have Ht := Lib.hid ht
  clear ht
  have hmf : ∀ (fn : Fn) (first cap : Array Value) (w : World), (Instr.makeFunc fn first cap).run Tryz.prog w = .ok (.func fn first cap) w := fun _ _ _ _ => rfl
  have hlt := h.lt
  have hB := h.le
  have HR := Lib.hid h
  have HS := Lib.hid (Stays.refl B none w)
  clear h
  obtain ⟨R, hR⟩ : ∃ R, R = Px.call E s := ⟨_, rfl⟩
  rw [← hR]
  unfold Px.call at hR
  have HX := Lib.hid hR
  clear hR
  go_enter Tryz.func181, Tryz.ntmps181
  go_wp2_with fail
  refine (begin_rd (HR.out.locals (by (exact Locals.au))) 33 Ht.out).mono ?_
  rintro e1 w1 ⟨rfl, hS1, hR1⟩
  unfold nodeVal
  have HR := Lib.hid hR1
  have HS := Lib.hid (Stays.trans (a := w) (by (exact Stays.au)) hS1)
  have hs1 := hS1.size
  (try simp at hs1)
  clear hR1
  have z0 : Var 25 w1 w.heap.size _ := Var.stays (by (exact Var.au)) hS1
  have z0l := z0.lt
  obtain ⟨z0c, z0f⟩ := obj_facts z0
  go_wp2_with fail
  refine (path_rd (HR.out.locals (by (exact Locals.au)))).mono ?_
  intro e2 w2 hm2
  refine hm2.cases ?_ ?_
  rotate_left
  focus (intro db sb hrb heb hRb hSb; subst heb; go_wp2_with fail; ((try simp only [Exit.inBlock, Exit.then]); refine post_panic rfl ?_); exact Says.bad (HX.out.trans (Res.bind_of_bad hrb _)) (Stays.trans (a := w) (by (exact Stays.au)) hSb) hRb)
  intro a2 s2 v2 hr2 he2 hv2 hR2 hS2
  subst he2
  have HX := Lib.hid (HX.out.trans (Res.bind_of_ok hr2 _))
  have HR := Lib.hid hR2
  have HS := Lib.hid (Stays.trans (a := w) (by (exact Stays.au)) hS2)
  have Hr2 := Lib.hid hr2
  have hs2 := hS2.size
  (try simp at hs2)
  clear hm2 hr2 hR2
  obtain rfl := hv2
  have z0' : Var 25 w2 w.heap.size _ := Var.stays (by (exact Var.au)) hS2
  clear z0 z0c z0f
  have z0 := z0'
  clear z0'
  have z0l := z0.lt
  obtain ⟨z0c, z0f⟩ := obj_facts z0
  have z1 : Var 25 w2 w1.heap.size _ := Var.stays (by (exact Var.au)) hS2
  have z1l := z1.lt
  obtain ⟨z1c, z1f⟩ := obj_facts z1
  go_wp2_with fail
  rw [storeF z1]
  go_wp2_with fail
  refine (tuple_rd (HR.out.locals (by (exact Locals.au))) 61 (fun _ _ => by simp [go_sem]) (Px.expr E) Px.suf_expr (fun _ _ h => expr_any h)).mono ?_
  intro e3 w3 hm3
  refine hm3.cases ?_ ?_
  rotate_left
  focus (intro db sb hrb heb hRb hSb; subst heb; go_wp2_with fail; ((try simp only [Exit.inBlock, Exit.then]); refine post_panic rfl ?_); exact Says.bad (HX.out.trans (Res.bind_of_bad hrb _)) (Stays.trans (a := w) (by (exact Stays.au)) hSb) hRb)
  intro a3 s3 v3 hr3 he3 hv3 hR3 hS3
  subst he3
  have HX := Lib.hid (HX.out.trans (Res.bind_of_ok hr3 _))
  have HR := Lib.hid hR3
  have HS := Lib.hid (Stays.trans (a := w) (by (exact Stays.au)) hS3)
  have Hr3 := Lib.hid hr3
  have hs3 := hS3.size
  (try simp at hs3)
  clear hm3 hr3 hR3
  obtain ⟨p3, c3, rfl, hw3⟩ := hv3
  have Hw3 := Lib.hid hw3.row.lt
  clear hw3
  have z0' : Var 25 w3 w.heap.size _ := Var.stays (by (exact Var.au)) hS3
  clear z0 z0c z0f
  have z0 := z0'
  clear z0'
  have z0l := z0.lt
  obtain ⟨z0c, z0f⟩ := obj_facts z0
  have z1' : Var 25 w3 w1.heap.size _ := Var.stays (by (exact Var.au)) hS3
  clear z1 z1c z1f
  have z1 := z1'
  clear z1'
  have z1l := z1.lt
  obtain ⟨z1c, z1f⟩ := obj_facts z1
  go_wp2_with fail
  rw [storeF z1]
  go_wp2_with fail
  refine (expect_any (HR.out.locals (by (exact Locals.au))) [59] (by decide)).mono ?_
  intro e4 w4 hm4
  refine hm4.cases ?_ ?_
  rotate_left
  focus (intro db sb hrb heb hRb hSb; subst heb; go_wp2_with fail; ((try simp only [Exit.inBlock, Exit.then]); refine post_panic rfl ?_); exact Says.bad (HX.out.trans (Res.bind_of_bad hrb _)) (Stays.trans (a := w) (by (exact Stays.au)) hSb) hRb)
  intro a4 s4 v4 hr4 he4 hv4 hR4 hS4
  subst he4
  have HX := Lib.hid (HX.out.trans (Res.bind_of_ok hr4 _))
  have HR := Lib.hid hR4
  have HS := Lib.hid (Stays.trans (a := w) (by (exact Stays.au)) hS4)
  have Hr4 := Lib.hid hr4
  have hs4 := hS4.size
  (try simp at hs4)
  clear hm4 hr4 hR4
  obtain rfl := hv4
  have z0' : Var 25 w4 w.heap.size _ := Var.stays (by (exact Var.au)) hS4
  clear z0 z0c z0f
  have z0 := z0'
  clear z0'
  have z0l := z0.lt
  obtain ⟨z0c, z0f⟩ := obj_facts z0
  have z1' : Var 25 w4 w1.heap.size _ := Var.stays (by (exact Var.au)) hS4
  clear z1 z1c z1f
  have z1 := z1'
  clear z1'
  have z1l := z1.lt
  obtain ⟨z1c, z1f⟩ := obj_facts z1
  have Hw3 := Lib.hid (Row.stays (by (have QQ := Hw3; exact Row.au)) hS4)
  go_wp2_with fail
  (rw [storeN]; rotate_left; (exact HasN.au))
  ((try simp only [Exit.inBlock, Exit.then]); refine ret_node (by rfl) (by rfl) (by (exact Var.au)) (by first | rfl | simp) (by rfl) ?_)
  refine Says.ok HX.out (by (exact Stays.au)) ⟨_, _, rfl, (show Row _ _ a3 (.slice p3 a3.length c3) from Row.mono (by (have QQ := Hw3; exact Row.au)) ?_)⟩ (HR.out.locals ?_)
  · intro b hb; (try simp at hb); omega
  · (exact Locals.au)

set_option maxRecDepth 100000 in
set_option maxHeartbeats 2000000 in
theorem lock_rd {B E g : Nat} {w : World} {s : St} (h : RdAt B E g w s) {t : Lx.Tok} {r : List Lx.Tok} (ht : s.toks = t :: r) :
    Calls Tryz.prog 134 #[.pointer (some ⟨g, 0, none⟩)] w (Says B E g w (encT w.heap.size) (Px.lock E s)) := by
  have Ht := Lib.hid ht
  clear ht
  have hlt := h.lt
  have hB := h.le
  have HR := Lib.hid h
  have HS := Lib.hid (Stays.refl B none w)
  clear h
  obtain ⟨R, hR⟩ : ∃ R, R = Px.lock E s := ⟨_, rfl⟩
  rw [← hR]
  unfold Px.lock at hR
  have HX := Lib.hid hR
  clear hR
  go_enter Tryz.func134, Tryz.ntmps134
  go_wp2_with fail
  refine (begin_rd (HR.out.locals (by (exact Locals.au))) 53 Ht.out).mono ?_
  rintro e1 w1 ⟨rfl, hS1, hR1⟩
  unfold nodeVal
  have HR := Lib.hid hR1
  have HS := Lib.hid (Stays.trans (a := w) (by (exact Stays.au)) hS1)
  have hs1 := hS1.size
  (try simp at hs1)
  clear hR1
  have z0 : Var 25 w1 w.heap.size _ := Var.stays (by (exact Var.au)) hS1
  have z0l := z0.lt
  obtain ⟨z0c, z0f⟩ := obj_facts z0
  go_wp2_with fail
  refine (name_rd (HR.out.locals (by (exact Locals.au)))).mono ?_
  intro e2 w2 hm2
  refine hm2.cases ?_ ?_
  rotate_left
  focus (intro db sb hrb heb hRb hSb; subst heb; go_wp2_with fail; ((try simp only [Exit.inBlock, Exit.then]); refine post_panic rfl ?_); exact Says.bad (HX.out.trans (Res.bind_of_bad hrb _)) (Stays.trans (a := w) (by (exact Stays.au)) hSb) hRb)
  intro a2 s2 v2 hr2 he2 hv2 hR2 hS2
  subst he2
  have HX := Lib.hid (HX.out.trans (Res.bind_of_ok hr2 _))
  have HR := Lib.hid hR2
  have HS := Lib.hid (Stays.trans (a := w) (by (exact Stays.au)) hS2)
  have Hr2 := Lib.hid hr2
  have hs2 := hS2.size
  (try simp at hs2)
  clear hm2 hr2 hR2
  obtain rfl := hv2
  have z0' : Var 25 w2 w.heap.size _ := Var.stays (by (exact Var.au)) hS2
  clear z0 z0c z0f
  have z0 := z0'
  clear z0'
  have z0l := z0.lt
  obtain ⟨z0c, z0f⟩ := obj_facts z0
  have z1 : Var 25 w2 w1.heap.size _ := Var.stays (by (exact Var.au)) hS2
  have z1l := z1.lt
  obtain ⟨z1c, z1f⟩ := obj_facts z1
  go_wp2_with fail
  rw [storeF z1]
  go_wp2_with fail
  refine (expect_any (HR.out.locals (by (exact Locals.au))) [105, 110, 118, 97, 114, 105, 97, 110, 116] (by decide)).mono ?_
  intro e3 w3 hm3
  refine hm3.cases ?_ ?_
  rotate_left
  focus (intro db sb hrb heb hRb hSb; subst heb; go_wp2_with fail; ((try simp only [Exit.inBlock, Exit.then]); refine post_panic rfl ?_); exact Says.bad (HX.out.trans (Res.bind_of_bad hrb _)) (Stays.trans (a := w) (by (exact Stays.au)) hSb) hRb)
  intro a3 s3 v3 hr3 he3 hv3 hR3 hS3
  subst he3
  have HX := Lib.hid (HX.out.trans (Res.bind_of_ok hr3 _))
  have HR := Lib.hid hR3
  have HS := Lib.hid (Stays.trans (a := w) (by (exact Stays.au)) hS3)
  have Hr3 := Lib.hid hr3
  have hs3 := hS3.size
  (try simp at hs3)
  clear hm3 hr3 hR3
  obtain rfl := hv3
  have z0' : Var 25 w3 w.heap.size _ := Var.stays (by (exact Var.au)) hS3
  clear z0 z0c z0f
  have z0 := z0'
  clear z0'
  have z0l := z0.lt
  obtain ⟨z0c, z0f⟩ := obj_facts z0
  have z1' : Var 25 w3 w1.heap.size _ := Var.stays (by (exact Var.au)) hS3
  clear z1 z1c z1f
  have z1 := z1'
  clear z1'
  have z1l := z1.lt
  obtain ⟨z1c, z1f⟩ := obj_facts z1
  go_wp2_with fail
  refine (expr_any (HR.out.locals (by (exact Locals.au)))).mono ?_
  intro e4 w4 hm4
  refine hm4.cases ?_ ?_
  rotate_left
  focus (intro db sb hrb heb hRb hSb; subst heb; go_wp2_with fail; ((try simp only [Exit.inBlock, Exit.then]); refine post_panic rfl ?_); exact Says.bad (HX.out.trans (Res.bind_of_bad hrb _)) (Stays.trans (a := w) (by (exact Stays.au)) hSb) hRb)
  intro a4 s4 v4 hr4 he4 hv4 hR4 hS4
  subst he4
  have HX := Lib.hid (HX.out.trans (Res.bind_of_ok hr4 _))
  have HR := Lib.hid hR4
  have HS := Lib.hid (Stays.trans (a := w) (by (exact Stays.au)) hS4)
  have Hr4 := Lib.hid hr4
  have hs4 := hS4.size
  (try simp at hs4)
  clear hm4 hr4 hR4
  obtain ⟨p4, c4, rfl, hw4⟩ := hv4
  have Hw4 := Lib.hid hw4.lt
  clear hw4
  unfold nodeVal
  have z0' : Var 25 w4 w.heap.size _ := Var.stays (by (exact Var.au)) hS4
  clear z0 z0c z0f
  have z0 := z0'
  clear z0'
  have z0l := z0.lt
  obtain ⟨z0c, z0f⟩ := obj_facts z0
  have z1' : Var 25 w4 w1.heap.size _ := Var.stays (by (exact Var.au)) hS4
  clear z1 z1c z1f
  have z1 := z1'
  clear z1'
  have z1l := z1.lt
  obtain ⟨z1c, z1f⟩ := obj_facts z1
  go_wp2_with fail
  rw [storeF z1]
  go_wp2_with fail
  refine (expect_any (HR.out.locals (by (exact Locals.au))) [59] (by decide)).mono ?_
  intro e5 w5 hm5
  refine hm5.cases ?_ ?_
  rotate_left
  focus (intro db sb hrb heb hRb hSb; subst heb; go_wp2_with fail; ((try simp only [Exit.inBlock, Exit.then]); refine post_panic rfl ?_); exact Says.bad (HX.out.trans (Res.bind_of_bad hrb _)) (Stays.trans (a := w) (by (exact Stays.au)) hSb) hRb)
  intro a5 s5 v5 hr5 he5 hv5 hR5 hS5
  subst he5
  have HX := Lib.hid (HX.out.trans (Res.bind_of_ok hr5 _))
  have HR := Lib.hid hR5
  have HS := Lib.hid (Stays.trans (a := w) (by (exact Stays.au)) hS5)
  have Hr5 := Lib.hid hr5
  have hs5 := hS5.size
  (try simp at hs5)
  clear hm5 hr5 hR5
  obtain rfl := hv5
  have z0' : Var 25 w5 w.heap.size _ := Var.stays (by (exact Var.au)) hS5
  clear z0 z0c z0f
  have z0 := z0'
  clear z0'
  have z0l := z0.lt
  obtain ⟨z0c, z0f⟩ := obj_facts z0
  have z1' : Var 25 w5 w1.heap.size _ := Var.stays (by (exact Var.au)) hS5
  clear z1 z1c z1f
  have z1 := z1'
  clear z1'
  have z1l := z1.lt
  obtain ⟨z1c, z1f⟩ := obj_facts z1
  have Hn : Hid (Row _ w5 [a4] (.slice (some ⟨w4.heap.size, 0, none⟩) 1 1)) := Lib.hid (Row.stays (row_new' (l := [a4]) (b := w4.heap.size) (nodes_one (by (have QQ := Hw4; exact Row.au))) (by simp [maxLen]) (by simp) rfl) hS5)
  go_wp2_with fail
  (rw [storeN]; rotate_left; (exact HasN.au))
  ((try simp only [Exit.inBlock, Exit.then]); refine ret_node (by rfl) (by rfl) (by (exact Var.au)) (by first | rfl | simp) (by rfl) ?_)
  refine Says.ok HX.out (by (exact Stays.au)) ⟨_, _, rfl, (show Row _ _ [a4] (.slice (some ⟨w4.heap.size, 0, none⟩) 1 1) from Row.mono (by (have QQ := Hn; exact Row.au)) ?_)⟩ (HR.out.locals ?_)
  · intro b hb; (try simp at hb); omega
  · (exact Locals.au)

set_option maxRecDepth 100000 in
set_option maxHeartbeats 2000000 in
theorem frame_rd {B E g : Nat} {w : World} {s : St} (h : RdAt B E g w s) {t : Lx.Tok} {r : List Lx.Tok} (ht : s.toks = t :: r) :
    Calls Tryz.prog 136 #[.pointer (some ⟨g, 0, none⟩)] w (Says B E g w (encT w.heap.size) (Px.frame E s)) := by
  have Ht := Lib.hid ht
  clear ht
  have hmf : ∀ (fn : Fn) (first cap : Array Value) (w : World), (Instr.makeFunc fn first cap).run Tryz.prog w = .ok (.func fn first cap) w := fun _ _ _ _ => rfl
  have hlt := h.lt
  have hB := h.le
  have HR := Lib.hid h
  have HS := Lib.hid (Stays.refl B none w)
  clear h
  obtain ⟨R, hR⟩ : ∃ R, R = Px.frame E s := ⟨_, rfl⟩
  rw [← hR]
  unfold Px.frame at hR
  have HX := Lib.hid hR
  clear hR
  go_enter Tryz.func136, Tryz.ntmps136
  go_wp2_with fail
  refine (begin_rd (HR.out.locals (by (exact Locals.au))) 56 Ht.out).mono ?_
  rintro e1 w1 ⟨rfl, hS1, hR1⟩
  unfold nodeVal
  have HR := Lib.hid hR1
  have HS := Lib.hid (Stays.trans (a := w) (by (exact Stays.au)) hS1)
  have hs1 := hS1.size
  (try simp at hs1)
  clear hR1
  have z0 : Var 25 w1 w.heap.size _ := Var.stays (by (exact Var.au)) hS1
  have z0l := z0.lt
  obtain ⟨z0c, z0f⟩ := obj_facts z0
  go_wp2_with fail
  refine (separated_rd (HR.out.locals (by (exact Locals.au))) 153 (fun _ _ => by simp [go_sem]) (Px.pvar E) Px.suf_pvar (fun _ _ h => variable_rd h)).mono ?_
  intro e2 w2 hm2
  refine hm2.cases ?_ ?_
  rotate_left
  focus (intro db sb hrb heb hRb hSb; subst heb; go_wp2_with fail; ((try simp only [Exit.inBlock, Exit.then]); refine post_panic rfl ?_); exact Says.bad (HX.out.trans (Res.bind_of_bad hrb _)) (Stays.trans (a := w) (by (exact Stays.au)) hSb) hRb)
  intro a2 s2 v2 hr2 he2 hv2 hR2 hS2
  subst he2
  have HX := Lib.hid (HX.out.trans (Res.bind_of_ok hr2 _))
  have HR := Lib.hid hR2
  have HS := Lib.hid (Stays.trans (a := w) (by (exact Stays.au)) hS2)
  have Hr2 := Lib.hid hr2
  have hs2 := hS2.size
  (try simp at hs2)
  clear hm2 hr2 hR2
  obtain ⟨p2, c2, rfl, hw2⟩ := hv2
  have Hw2 := Lib.hid hw2.row.lt
  clear hw2
  have z0' : Var 25 w2 w.heap.size _ := Var.stays (by (exact Var.au)) hS2
  clear z0 z0c z0f
  have z0 := z0'
  clear z0'
  have z0l := z0.lt
  obtain ⟨z0c, z0f⟩ := obj_facts z0
  have z1 : Var 25 w2 w1.heap.size _ := Var.stays (by (exact Var.au)) hS2
  have z1l := z1.lt
  obtain ⟨z1c, z1f⟩ := obj_facts z1
  go_wp2_with fail
  rw [storeF z1]
  go_wp2_with fail
  refine (expect_any (HR.out.locals (by (exact Locals.au))) [59] (by decide)).mono ?_
  intro e3 w3 hm3
  refine hm3.cases ?_ ?_
  rotate_left
  focus (intro db sb hrb heb hRb hSb; subst heb; go_wp2_with fail; ((try simp only [Exit.inBlock, Exit.then]); refine post_panic rfl ?_); exact Says.bad (HX.out.trans (Res.bind_of_bad hrb _)) (Stays.trans (a := w) (by (exact Stays.au)) hSb) hRb)
  intro a3 s3 v3 hr3 he3 hv3 hR3 hS3
  subst he3
  have HX := Lib.hid (HX.out.trans (Res.bind_of_ok hr3 _))
  have HR := Lib.hid hR3
  have HS := Lib.hid (Stays.trans (a := w) (by (exact Stays.au)) hS3)
  have Hr3 := Lib.hid hr3
  have hs3 := hS3.size
  (try simp at hs3)
  clear hm3 hr3 hR3
  obtain rfl := hv3
  have z0' : Var 25 w3 w.heap.size _ := Var.stays (by (exact Var.au)) hS3
  clear z0 z0c z0f
  have z0 := z0'
  clear z0'
  have z0l := z0.lt
  obtain ⟨z0c, z0f⟩ := obj_facts z0
  have z1' : Var 25 w3 w1.heap.size _ := Var.stays (by (exact Var.au)) hS3
  clear z1 z1c z1f
  have z1 := z1'
  clear z1'
  have z1l := z1.lt
  obtain ⟨z1c, z1f⟩ := obj_facts z1
  have Hw2 := Lib.hid (Row.stays (by (have QQ := Hw2; exact Row.au)) hS3)
  go_wp2_with fail
  (rw [storeN]; rotate_left; (exact HasN.au))
  ((try simp only [Exit.inBlock, Exit.then]); refine ret_node (by rfl) (by rfl) (by (exact Var.au)) (by first | rfl | simp) (by rfl) ?_)
  refine Says.ok HX.out (by (exact Stays.au)) ⟨_, _, rfl, (show Row _ _ a2 (.slice p2 a2.length c2) from Row.mono (by (have QQ := Hw2; exact Row.au)) ?_)⟩ (HR.out.locals ?_)
  · intro b hb; (try simp at hb); omega
  · (exact Locals.au)
end Go.Proofs.YtbgpboiblggmiaaGreatDoor

/-
  Walks over typed, and what calls it: field, param, local.
-/
namespace Go.Proofs.YtbgpboiblggmiaaGreatDoor
open Go.RowKit
open Px (St T D Res left Takes)

theorem Var.staysX {B x : Nat} {w w' : World} {b : Nat} {cs : Array Value} (h : Var 25 w b cs) (k : Stays B (some x) w w') (hb : b ≠ x) : Var 25 w' b cs := k.block _ _ h (.inr rfl) (by simpa using hb)
theorem Stays.rowX {B : Nat} {a b : World} {k : Nat} (h : Stays B none a b) (cs : Array Value) : Stays B (some k) a (b.setRow k cs) :=
  ⟨h.os, h.tape, h.output, by have := h.size; simp [World.setRow]; exact this, fun i o hi hl hx => obj_row_other (h.block i o hi hl (by simp)) (by intro e; exact hx (by rw [e])) cs⟩
theorem Stays.rowX' {B : Nat} {a b : World} {k : Nat} (h : Stays B (some k) a b) (cs : Array Value) : Stays B (some k) a (b.setRow k cs) :=
  ⟨h.os, h.tape, h.output, by have := h.size; simp [World.setRow]; exact this, fun i o hi hl hx => obj_row_other (h.block i o hi hl hx) (by intro e; exact hx (by rw [e])) cs⟩

/-- what 'typed' says: the variable b has a name and a number -/
def TypedSaid (B E g : Nat) (w : World) (b : Nat) (cs : Array Value) (r : Res (Px.Str × Int)) (e : Ending) (w' : World) : Prop :=
  Stays B (some b) w w' ∧ match r with
      | .ok (x, m) s' => e = .returned (.tuple #[]) ∧ Var 25 w' b ((cs.setIfInBounds 1 (.string ⟨x.toArray⟩)).setIfInBounds 3 (.int .i64 m)) ∧ RdAt B E g w' s'
      | .bad d s' => e = .panicked [{ v := diagI d, recovered := false }] ∧ RdAt B E g w' s'

set_option maxRecDepth 100000 in
set_option maxHeartbeats 2000000 in
theorem typed_rd {B E g : Nat} {w : World} {s : St} (h : RdAt B E g w s) {b : Nat} {cs : Array Value} (hv : Var 25 w b cs) (h9 : cs.size = 9) (hgb : g < b) :
    Calls Tryz.prog 166 #[.pointer (some ⟨g, 0, none⟩), .pointer (some ⟨b, 0, none⟩)] w (TypedSaid B E g w b cs (Px.typed E s)) := by
  have hlt := h.lt
  have HR := Lib.hid h
  have c1 : ∃ v, cs[1]? = some v := ⟨_, Array.getElem?_eq_getElem (by omega)⟩
  have c3 : ∃ v, cs[3]? = some v := ⟨_, Array.getElem?_eq_getElem (by omega)⟩
  obtain ⟨x1, c1⟩ := c1
  obtain ⟨x3, c3⟩ := c3
  obtain ⟨R, hR⟩ : ∃ R, R = Px.typed E s := ⟨_, rfl⟩
  rw [← hR]
  unfold Px.typed at hR
  have HX := Lib.hid hR
  have H9 := Lib.hid h9
  clear h hR h9
  go_enter Tryz.func166, Tryz.ntmps166
  go_wp2_with fail
  refine (name_rd HR.out).mono ?_
  intro e1 w1 hm1
  refine hm1.cases ?_ ?_
  rotate_left
  · intro db sb hrb heb hRb hSb
    subst heb
    go_wp2_with fail
    ((try simp only [Exit.inBlock, Exit.then]); refine post_panic rfl ?_)
    unfold TypedSaid
    rw [HX.out, Res.bind_of_bad hrb]
    exact ⟨hSb.weak _, rfl, hRb⟩
  intro a1 s1 v1 hr1 he1 hv1 hR1 hS1
  subst he1
  obtain rfl := hv1
  have HX := Lib.hid (HX.out.trans (Res.bind_of_ok hr1 _))
  have HR := Lib.hid hR1
  have HS := Lib.hid hS1
  have z1 := hv.stays hS1
  have z1l := z1.lt
  obtain ⟨z1c, z1f⟩ := obj_facts z1
  clear hm1 hr1 hR1
  go_wp2_with fail
  rw [storeF z1]
  refine (expect_any (HR.out.locals ((Locals.refl _ _).setRowN (HasV.of z1) hgb _)) [58] (by decide)).mono ?_
  intro e2 w2 hm2
  refine hm2.cases ?_ ?_
  rotate_left
  · intro db sb hrb heb hRb hSb
    subst heb
    go_wp2_with fail
    ((try simp only [Exit.inBlock, Exit.then]); refine post_panic rfl ?_)
    unfold TypedSaid
    rw [HX.out, Res.bind_of_bad hrb]
    exact ⟨(HS.out.rowX _).trans (hSb.weak _), rfl, hRb⟩
  intro a2 s2 v2 hr2 he2 hv2 hR2 hS2
  subst he2
  obtain rfl := hv2
  have HX := Lib.hid (HX.out.trans (Res.bind_of_ok hr2 _))
  have HR := Lib.hid hR2
  have HS := Lib.hid ((HS.out.rowX (k := b) _).trans (hS2.weak _))
  have z2 := (Var.row_same z1 _).stays hS2
  have c3' : (cs.setIfInBounds 1 (.string ⟨a1.toArray⟩))[3]? = some x3 := by simp [c3]
  clear z1 z1c z1f hm2 hr2 hR2
  go_wp2_with fail
  refine (number_rd HR.out).mono ?_
  intro e3 w3 hm3
  refine hm3.cases ?_ ?_
  rotate_left
  · intro db sb hrb heb hRb hSb
    subst heb
    go_wp2_with fail
    ((try simp only [Exit.inBlock, Exit.then]); refine post_panic rfl ?_)
    unfold TypedSaid
    rw [HX.out, Res.bind_of_bad hrb]
    exact ⟨HS.out.trans (hSb.weak _), rfl, hRb⟩
  intro a3 s3 v3 hr3 he3 hv3 hR3 hS3
  subst he3
  obtain rfl := hv3
  have HX := Lib.hid (HX.out.trans (Res.bind_of_ok hr3 _))
  have HR := Lib.hid hR3
  have HS := Lib.hid (HS.out.trans (hS3.weak _))
  have z3 := z2.stays hS3
  have z3l := z3.lt
  obtain ⟨z3c, z3f⟩ := obj_facts z3
  clear hm3 hr3 hR3 z2
  go_wp2_with fail
  rw [storeF z3]
  (first | go_end0 | refine bodyPost_ret (results_none (by rfl) _ _ _) rfl ?_)
  unfold TypedSaid
  rw [HX.out]
  exact ⟨HS.out.rowX' _, rfl, Var.row_same z3 _, HR.out.locals ((Locals.refl _ _).setRowN (HasV.of z3) hgb _)⟩

set_option maxRecDepth 100000 in
set_option maxHeartbeats 2000000 in
theorem field_rd {B E g : Nat} {w : World} {s : St} (h : RdAt B E g w s) :
    Calls Tryz.prog 152 #[.pointer (some ⟨g, 0, none⟩)] w (Says B E g w (encT w.heap.size) (Px.field E s)) := by
  have hF := tokF2
  have hlt := h.lt
  have hB := h.le
  have HR := Lib.hid h
  have HS := Lib.hid (Stays.refl B none w)
  clear h
  obtain ⟨R, hR⟩ : ∃ R, R = Px.field E s := ⟨_, rfl⟩
  rw [← hR]
  unfold Px.field Px.offOf at hR
  have HX := Lib.hid hR
  clear hR
  go_enter Tryz.func152, Tryz.ntmps152
  go_wp2_with fail
  refine (peek_any (HR.out.locals (by (exact Locals.au)))).mono ?_
  rintro e1 w1 ⟨rfl, hb1⟩
  unfold tokVal
  have hS1 := (Stays.refl B none _).below hb1 (Nat.le_refl _)
  have HR := Lib.hid (RdAt.of_below (HR.out.locals (by (exact Locals.au))) hb1 (Nat.le_refl _))
  have HS := Lib.hid (Stays.trans (a := w) (by (exact Stays.au)) hS1)
  have hs1 := hS1.size
  (try simp at hs1)
  clear hb1
  have z0 : Var 25 w1 w.heap.size _ := Var.stays (by (exact Var.au)) hS1
  have z0l := z0.lt
  obtain ⟨z0c, z0f⟩ := obj_facts z0
  go_wp2_with fail
  refine (typed_rd (HR.out.locals (by (exact Locals.au))) (b := w1.heap.size) (by (exact Var.au)) (by rfl) (by omega)).mono ?_
  intro e2 w2 hm2
  unfold TypedSaid at hm2
  obtain ⟨hS2, hm2⟩ := hm2
  cases hr2 : Px.typed E s with
  | bad db sb =>
    rw [hr2] at hm2
    obtain ⟨rfl, hRb⟩ := hm2
    go_wp2_with fail
    ((try simp only [Exit.inBlock, Exit.then]); refine post_panic rfl ?_)
    exact Says.bad (HX.out.trans (Res.bind_of_bad hr2 _)) (Stays.trans_new (x := none) (a := w) (by (exact Stays.au)) hS2 (fun i hi => by cases hi; omega)) hRb
  | ok a2 s2 =>
  rw [hr2] at hm2
  obtain ⟨rfl, hv2, hR2⟩ := hm2
  have HX := Lib.hid (HX.out.trans (Res.bind_of_ok hr2 _))
  have HR := Lib.hid hR2
  have HS := Lib.hid (Stays.trans_new (x := none) (a := w) (by (exact Stays.au)) hS2 (fun i hi => by cases hi; omega))
  have hs2 := hS2.size
  (try simp at hs2)
  clear hr2 hR2
  have z0' : Var 25 w2 w.heap.size _ := Var.staysX (by (exact Var.au)) hS2 (by omega)
  clear z0 z0c z0f
  have z0 := z0'
  clear z0'
  have z0l := z0.lt
  obtain ⟨z0c, z0f⟩ := obj_facts z0
  have z1 := hv2
  have z1l := z1.lt
  obtain ⟨z1c, z1f⟩ := obj_facts z1
  go_wp2_with fail
  refine (expect_any (HR.out.locals (by (exact Locals.au))) [59] (by decide)).mono ?_
  intro e3 w3 hm3
  refine hm3.cases ?_ ?_
  rotate_left
  focus (intro db sb hrb heb hRb hSb; subst heb; go_wp2_with fail; ((try simp only [Exit.inBlock, Exit.then]); refine post_panic rfl ?_); exact Says.bad (HX.out.trans (Res.bind_of_bad hrb _)) (Stays.trans (a := w) (by (exact Stays.au)) hSb) hRb)
  intro a3 s3 v3 hr3 he3 hv3 hR3 hS3
  subst he3
  have HX := Lib.hid (HX.out.trans (Res.bind_of_ok hr3 _))
  have HR := Lib.hid hR3
  have HS := Lib.hid (Stays.trans (a := w) (by (exact Stays.au)) hS3)
  have Hr3 := Lib.hid hr3
  have hs3 := hS3.size
  (try simp at hs3)
  clear hm3 hr3 hR3
  obtain rfl := hv3
  have z0' : Var 25 w3 w.heap.size _ := Var.stays (by (exact Var.au)) hS3
  clear z0 z0c z0f
  have z0 := z0'
  clear z0'
  have z0l := z0.lt
  obtain ⟨z0c, z0f⟩ := obj_facts z0
  have z1' : Var 25 w3 w1.heap.size _ := Var.stays (by (exact Var.au)) hS3
  clear z1 z1c z1f
  have z1 := z1'
  clear z1'
  have z1l := z1.lt
  obtain ⟨z1c, z1f⟩ := obj_facts z1
  go_wp2_with fail
  (rw [storeN]; rotate_left; (exact HasN.au))
  ((try simp only [Exit.inBlock, Exit.then]); refine ret_node (by rfl) (by rfl) (by (exact Var.au)) (by first | rfl | simp) (by rfl) ?_)
  refine Says.ok HX.out (by (exact Stays.au)) ⟨none, 0, rfl, Row.nil _ _⟩ (HR.out.locals ?_)
  (exact Locals.au)

set_option maxRecDepth 100000 in
set_option maxHeartbeats 2000000 in
theorem param_rd {B E g : Nat} {w : World} {s : St} (h : RdAt B E g w s) :
    Calls Tryz.prog 154 #[.pointer (some ⟨g, 0, none⟩)] w (Says B E g w (encT w.heap.size) (Px.param E s)) := by
  have hF := tokF2
  have hlt := h.lt
  have hB := h.le
  have HR := Lib.hid h
  have HS := Lib.hid (Stays.refl B none w)
  clear h
  obtain ⟨R, hR⟩ : ∃ R, R = Px.param E s := ⟨_, rfl⟩
  rw [← hR]
  unfold Px.param Px.offOf at hR
  have HX := Lib.hid hR
  clear hR
  go_enter Tryz.func154, Tryz.ntmps154
  go_wp2_with fail
  refine (peek_any (HR.out.locals (by (exact Locals.au)))).mono ?_
  rintro e1 w1 ⟨rfl, hb1⟩
  unfold tokVal
  have hS1 := (Stays.refl B none _).below hb1 (Nat.le_refl _)
  have HR := Lib.hid (RdAt.of_below (HR.out.locals (by (exact Locals.au))) hb1 (Nat.le_refl _))
  have HS := Lib.hid (Stays.trans (a := w) (by (exact Stays.au)) hS1)
  have hs1 := hS1.size
  (try simp at hs1)
  clear hb1
  have z0 : Var 25 w1 w.heap.size _ := Var.stays (by (exact Var.au)) hS1
  have z0l := z0.lt
  obtain ⟨z0c, z0f⟩ := obj_facts z0
  go_wp2_with fail
  refine (typed_rd (HR.out.locals (by (exact Locals.au))) (b := w1.heap.size) (by (exact Var.au)) (by rfl) (by omega)).mono ?_
  intro e2 w2 hm2
  unfold TypedSaid at hm2
  obtain ⟨hS2, hm2⟩ := hm2
  cases hr2 : Px.typed E s with
  | bad db sb =>
    rw [hr2] at hm2
    obtain ⟨rfl, hRb⟩ := hm2
    go_wp2_with fail
    ((try simp only [Exit.inBlock, Exit.then]); refine post_panic rfl ?_)
    exact Says.bad (HX.out.trans (Res.bind_of_bad hr2 _)) (Stays.trans_new (x := none) (a := w) (by (exact Stays.au)) hS2 (fun i hi => by cases hi; omega)) hRb
  | ok a2 s2 =>
  rw [hr2] at hm2
  obtain ⟨rfl, hv2, hR2⟩ := hm2
  have HX := Lib.hid (HX.out.trans (Res.bind_of_ok hr2 _))
  have HR := Lib.hid hR2
  have HS := Lib.hid (Stays.trans_new (x := none) (a := w) (by (exact Stays.au)) hS2 (fun i hi => by cases hi; omega))
  have hs2 := hS2.size
  (try simp at hs2)
  clear hr2 hR2
  have z0' : Var 25 w2 w.heap.size _ := Var.staysX (by (exact Var.au)) hS2 (by omega)
  clear z0 z0c z0f
  have z0 := z0'
  clear z0'
  have z0l := z0.lt
  obtain ⟨z0c, z0f⟩ := obj_facts z0
  have z1 := hv2
  have z1l := z1.lt
  obtain ⟨z1c, z1f⟩ := obj_facts z1
  go_wp2_with fail
  (rw [storeN]; rotate_left; (exact HasN.au))
  ((try simp only [Exit.inBlock, Exit.then]); refine ret_node (by rfl) (by rfl) (by (exact Var.au)) (by first | rfl | simp) (by rfl) ?_)
  refine Says.ok HX.out (by (exact Stays.au)) ⟨none, 0, rfl, Row.nil _ _⟩ (HR.out.locals ?_)
  (exact Locals.au)

set_option maxRecDepth 100000 in
set_option maxHeartbeats 2000000 in
theorem local_rd {B E g : Nat} {w : World} {s : St} (h : RdAt B E g w s) :
    Calls Tryz.prog 182 #[.pointer (some ⟨g, 0, none⟩)] w (Says B E g w (encT w.heap.size) (Px.plocal E s)) := by
  have hF := tokF2
  have hlt := h.lt
  have hB := h.le
  have HR := Lib.hid h
  have HS := Lib.hid (Stays.refl B none w)
  clear h
  obtain ⟨R, hR⟩ : ∃ R, R = Px.plocal E s := ⟨_, rfl⟩
  rw [← hR]
  unfold Px.plocal Px.offOf at hR
  have HX := Lib.hid hR
  clear hR
  go_enter Tryz.func182, Tryz.ntmps182
  go_wp2_with fail
  refine (peek_any (HR.out.locals (by (exact Locals.au)))).mono ?_
  rintro e1 w1 ⟨rfl, hb1⟩
  unfold tokVal
  have hS1 := (Stays.refl B none _).below hb1 (Nat.le_refl _)
  have HR := Lib.hid (RdAt.of_below (HR.out.locals (by (exact Locals.au))) hb1 (Nat.le_refl _))
  have HS := Lib.hid (Stays.trans (a := w) (by (exact Stays.au)) hS1)
  have hs1 := hS1.size
  (try simp at hs1)
  clear hb1
  have z0 : Var 25 w1 w.heap.size _ := Var.stays (by (exact Var.au)) hS1
  have z0l := z0.lt
  obtain ⟨z0c, z0f⟩ := obj_facts z0
  go_wp2_with fail
  refine (accept_any (HR.out.locals (by (exact Locals.au))) [103, 104, 111, 115, 116] (by decide)).mono ?_
  rintro e2 w2 ⟨rfl, hS2, hR2⟩
  have HR := Lib.hid hR2
  have HS := Lib.hid (Stays.trans (a := w) (by (exact Stays.au)) hS2)
  have hs2 := hS2.size
  (try simp at hs2)
  clear hR2
  have z0' : Var 25 w2 w.heap.size _ := Var.stays (by (exact Var.au)) hS2
  clear z0 z0c z0f
  have z0 := z0'
  clear z0'
  have z0l := z0.lt
  obtain ⟨z0c, z0f⟩ := obj_facts z0
  have z1 : Var 25 w2 w1.heap.size _ := Var.stays (by (exact Var.au)) hS2
  have z1l := z1.lt
  obtain ⟨z1c, z1f⟩ := obj_facts z1
  go_wp2_with fail
  rw [storeF z1]
  go_wp2_with fail
  refine (expect_any (HR.out.locals (by (exact Locals.au))) [108, 111, 99, 97, 108] (by decide)).mono ?_
  intro e3 w3 hm3
  refine hm3.cases ?_ ?_
  rotate_left
  focus (intro db sb hrb heb hRb hSb; subst heb; go_wp2_with fail; ((try simp only [Exit.inBlock, Exit.then]); refine post_panic rfl ?_); exact Says.bad (HX.out.trans (Res.bind_of_bad hrb _)) (Stays.trans (a := w) (by (exact Stays.au)) hSb) hRb)
  intro a3 s3 v3 hr3 he3 hv3 hR3 hS3
  subst he3
  have HX := Lib.hid (HX.out.trans (Res.bind_of_ok hr3 _))
  have HR := Lib.hid hR3
  have HS := Lib.hid (Stays.trans (a := w) (by (exact Stays.au)) hS3)
  have Hr3 := Lib.hid hr3
  have hs3 := hS3.size
  (try simp at hs3)
  clear hm3 hr3 hR3
  obtain rfl := hv3
  have z0' : Var 25 w3 w.heap.size _ := Var.stays (by (exact Var.au)) hS3
  clear z0 z0c z0f
  have z0 := z0'
  clear z0'
  have z0l := z0.lt
  obtain ⟨z0c, z0f⟩ := obj_facts z0
  have z1' : Var 25 w3 w1.heap.size _ := Var.stays (by (exact Var.au)) hS3
  clear z1 z1c z1f
  have z1 := z1'
  clear z1'
  have z1l := z1.lt
  obtain ⟨z1c, z1f⟩ := obj_facts z1
  have Z1 := z1
  go_wp2_with fail
  refine (typed_rd (HR.out.locals (by (exact Locals.au))) (b := w1.heap.size) (by (exact Var.au)) (by rfl) (by omega)).mono ?_
  intro e4 w4 hm4
  unfold TypedSaid at hm4
  obtain ⟨hS4, hm4⟩ := hm4
  cases hr4 : Px.typed E s3 with
  | bad db sb =>
    rw [hr4] at hm4
    obtain ⟨rfl, hRb⟩ := hm4
    go_wp2_with fail
    ((try simp only [Exit.inBlock, Exit.then]); refine post_panic rfl ?_)
    exact Says.bad (HX.out.trans (Res.bind_of_bad hr4 _)) (Stays.trans_new (x := none) (a := w) (by (exact Stays.au)) hS4 (fun i hi => by cases hi; omega)) hRb
  | ok a4 s4 =>
  rw [hr4] at hm4
  obtain ⟨rfl, hv4, hR4⟩ := hm4
  have HX := Lib.hid (HX.out.trans (Res.bind_of_ok hr4 _))
  have HR := Lib.hid hR4
  have HS := Lib.hid (Stays.trans_new (x := none) (a := w) (by (exact Stays.au)) hS4 (fun i hi => by cases hi; omega))
  have hs4 := hS4.size
  (try simp at hs4)
  clear hr4 hR4
  have z0' : Var 25 w4 w.heap.size _ := Var.staysX (by (exact Var.au)) hS4 (by omega)
  clear z0 z0c z0f
  have z0 := z0'
  clear z0'
  have z0l := z0.lt
  obtain ⟨z0c, z0f⟩ := obj_facts z0
  have z1 := hv4
  have z1l := z1.lt
  obtain ⟨z1c, z1f⟩ := obj_facts z1
  go_wp2_with fail
  refine (expect_any (HR.out.locals (by (exact Locals.au))) [59] (by decide)).mono ?_
  intro e5 w5 hm5
  refine hm5.cases ?_ ?_
  rotate_left
  focus (intro db sb hrb heb hRb hSb; subst heb; go_wp2_with fail; ((try simp only [Exit.inBlock, Exit.then]); refine post_panic rfl ?_); exact Says.bad (HX.out.trans (Res.bind_of_bad hrb _)) (Stays.trans (a := w) (by (exact Stays.au)) hSb) hRb)
  intro a5 s5 v5 hr5 he5 hv5 hR5 hS5
  subst he5
  have HX := Lib.hid (HX.out.trans (Res.bind_of_ok hr5 _))
  have HR := Lib.hid hR5
  have HS := Lib.hid (Stays.trans (a := w) (by (exact Stays.au)) hS5)
  have Hr5 := Lib.hid hr5
  have hs5 := hS5.size
  (try simp at hs5)
  clear hm5 hr5 hR5
  obtain rfl := hv5
  have z0' : Var 25 w5 w.heap.size _ := Var.stays (by (exact Var.au)) hS5
  clear z0 z0c z0f
  have z0 := z0'
  clear z0'
  have z0l := z0.lt
  obtain ⟨z0c, z0f⟩ := obj_facts z0
  have z1' : Var 25 w5 w1.heap.size _ := Var.stays (by (exact Var.au)) hS5
  clear z1 z1c z1f
  have z1 := z1'
  clear z1'
  have z1l := z1.lt
  obtain ⟨z1c, z1f⟩ := obj_facts z1
  go_wp2_with fail
  (rw [storeN]; rotate_left; (exact HasN.au))
  ((try simp only [Exit.inBlock, Exit.then]); refine ret_node (by rfl) (by rfl) (by (exact Var.au)) (by first | rfl | simp) (by rfl) ?_)
  refine Says.ok HX.out (by (exact Stays.au)) ⟨none, 0, rfl, Row.nil _ _⟩ (HR.out.locals ?_)
  (exact Locals.au)
end Go.Proofs.YtbgpboiblggmiaaGreatDoor

/-
  Walks over the reader's assignments: assign, assigns, with.
-/
namespace Go.Proofs.YtbgpboiblggmiaaGreatDoor
open Go.RowKit
open Px (St T D Res left Takes)

/-- what a call says that appends to a row of trees that came in, x its block -/
def SaysX (B E g lo : Nat) (x : Option Nat) (w : World) (r : Res (List T)) (e : Ending) (w' : World) : Prop :=
  Stays B x w w' ∧ match r with
  | .ok l s => ∃ a cap, e = .returned (.slice a l.length cap) ∧ RowX (fun b => lo ≤ b) w' l (.slice a l.length cap) ∧ (∀ b, (Value.slice a l.length cap).ownBlock = some b → x = some b ∨ w.heap.size ≤ b) ∧ RdAt B E g w' s
  | .bad d s => e = .panicked [{ v := diagI d, recovered := false }] ∧ RdAt B E g w' s
namespace SaysX
variable {B E g lo : Nat} {x : Option Nat} {w w' : World} {r : Res (List T)}
theorem bad {d : D} {s : St} (hr : r = .bad d s) (hs : Stays B x w w') (h : RdAt B E g w' s) : SaysX B E g lo x w r (.panicked [{ v := diagI d, recovered := false }]) w' := by
  subst hr
  exact ⟨hs, rfl, h⟩
theorem ok {l : List T} {s : St} {a : Option Addr} {n cap : Nat} (hr : r = .ok l s) (hn : n = l.length) (hs : Stays B x w w') (hw : RowX (fun b => lo ≤ b) w' l (.slice a n cap)) (hx : ∀ b, (Value.slice a n cap).ownBlock = some b → x = some b ∨ w.heap.size ≤ b) (h : RdAt B E g w' s) : SaysX B E g lo x w r (.returned (.slice a n cap)) w' := by
  subst hr; subst hn
  exact ⟨hs, a, cap, rfl, hw, hx, h⟩
theorem cases {e : Ending} (h : SaysX B E g lo x w r e w') {G : Prop}
    (h1 : ∀ l s a cap, r = .ok l s → e = .returned (.slice a l.length cap) → RowX (fun b => lo ≤ b) w' l (.slice a l.length cap) → (∀ b, (Value.slice a l.length cap).ownBlock = some b → x = some b ∨ w.heap.size ≤ b) → RdAt B E g w' s → Stays B x w w' → G)
    (h2 : ∀ d s, r = .bad d s → e = .panicked [{ v := diagI d, recovered := false }] → RdAt B E g w' s → Stays B x w w' → G) : G := by
  obtain ⟨hs, h⟩ := h
  cases r with
  | ok l s => obtain ⟨a, cap, he, hv, hx, hr⟩ := h; exact h1 l s a cap rfl he hv hx hr hs
  | bad d s => obtain ⟨he, hr⟩ := h; exact h2 d s rfl he hr hs
end SaysX
theorem append_finX {B E g : Nat} {x : Option Nat} {w w3 w9 : World} {s : St} {n : Nat} {kv : Value} {xs : List Value} {lo hi : Nat} {o : Obj} (hS : Stays B x w w3) (hR : RdAt B E g w3 s) (hg : g < lo) (hx1 : w3.ownsRow 0 25 9 kv n xs) (hx2 : ∀ b, kv.ownBlock = some b → lo ≤ b ∧ b < hi) (hx : ∀ b, kv.ownBlock = some b → w.heap.size ≤ b ∨ x = some b)
    (hgrow : (w3.alloc o).grownBy w9 kv.ownBlock) : Stays B x w w9 ∧ RdAt B E g w9 s := by
  refine ⟨(hS.alloc o).grown hgrow hx, hR.locals (((Locals.refl g w3).alloc o).grown hgrow (fun k hk => ⟨by have := hx2 k hk; omega, fun cs t fz ht => ?_⟩))⟩
  obtain ⟨-, c, f, hc⟩ := row_obj hx1 k hk
  rw [obj_old hc o] at ht
  cases ht
  decide

theorem Stays.transX {B : Nat} {x y : Option Nat} {a b c : World} (h : Stays B x a b) (k : Stays B y b c) (hy : ∀ i, y = some i → x = some i ∨ a.heap.size ≤ i) : Stays B x a c :=
  ⟨k.os.trans h.os, k.tape.trans h.tape, k.output.trans h.output, Nat.le_trans h.size k.size, fun i o hi hl hx => k.block i o (h.block i o hi hl hx) hl
    (fun e => by
      rcases hy i e.symm with h1 | h1
      · exact hx h1.symm
      · have := lt_heap hi; omega)⟩

set_option maxRecDepth 100000 in
set_option maxHeartbeats 4000000 in
theorem assign_rd {B E g lo : Nat} {w : World} {s : St} (h : RdAt B E g w s) {l : List T} {a : Option Addr} {cap : Nat} (hw : RowX (fun b => lo ≤ b) w l (.slice a l.length cap)) (hlo : g < lo) (hlo2 : lo ≤ w.heap.size) (hlen : l.length ≤ 8000) :
    Calls Tryz.prog 195 #[.pointer (some ⟨g, 0, none⟩), .slice a l.length cap] w (SaysX B E g lo (Value.slice a l.length cap).ownBlock w (Px.assign E l s)) := by
  obtain ⟨i0, hi, hz0, hz1, hz2⟩ := info_parts infoNode
  have Hw := Lib.hid hw.lt
  have hlt := h.lt
  have hB := h.le
  have HR := Lib.hid h
  have HS := Lib.hid (Stays.refl B (Value.slice a l.length cap).ownBlock w)
  clear h hw
  obtain ⟨R, hR⟩ : ∃ R, R = Px.assign E l s := ⟨_, rfl⟩
  rw [← hR]
  unfold Px.assign at hR
  have HX := Lib.hid hR
  clear hR
  go_enter Tryz.func195, Tryz.ntmps195
  go_wp2_with fail
  refine (ref_any (HR.out.locals (by (exact Locals.au)))).mono ?_
  intro e1 w1 hm1
  refine hm1.cases ?_ ?_
  rotate_left
  focus (intro db sb hrb heb hRb hSb; subst heb; go_wp2_with fail; ((try simp only [Exit.inBlock, Exit.then]); refine post_panic rfl ?_); exact SaysX.bad (HX.out.trans (Res.bind_of_bad hrb _)) (Stays.trans (a := w) (by (exact Stays.au)) (hSb.weak _)) hRb)
  intro a1 s1 v1 hr1 he1 hv1 hR1 hS1
  subst he1
  have HX := Lib.hid (HX.out.trans (Res.bind_of_ok hr1 _))
  have HR := Lib.hid hR1
  have HS := Lib.hid (Stays.trans (a := w) (by (exact Stays.au)) (hS1.weak _))
  have Hr1 := Lib.hid hr1
  have hs1 := hS1.size
  (try simp at hs1)
  clear hm1 hr1 hR1
  obtain ⟨p1, c1, rfl, hw1⟩ := hv1
  have Hw1 := Lib.hid hw1.lt
  clear hw1
  unfold nodeVal
  obtain ⟨xs, hx1, hx2, hx3⟩ := Hw.out.stays hS1
  have Hx1 := Lib.hid hx1
  have Hx2 := Lib.hid hx2
  have Hx3 := Lib.hid hx3
  clear hx1 hx2 hx3
  go_wp2_with (first | (at_builtin; (refine wpList_append_lies _ (by rfl) (.tmp 5) (.tmp 8) 23 (by rfl) 0 25 i0 _ 9 104 Tryz.underlying23 hi hz0 hz1 hz2 (by rfl) (by omega) (.slice a l.length cap) l.length xs (by rfl) (Hx1.out.alloc _) ⟨w1.heap.size, 0, none⟩ 1 1 (nodeCells a1 (.slice p1 a1.kids.length c1)) (by rfl) (by rfl) (World.news_of_block (cs := (nodeCells a1 (.slice p1 a1.kids.length c1)).toArray) (t := 25) (fr := (0, 0)) (heap_alloc_new w1 _)) (node_ones _ _ _ _) (by omega) (by unfold maxLen; omega) (by omega) (by omega) (w1.heap.size + 1) (by simp) ?_); intro g9 cap9 w9 hown9 hgrow9 hat9 hlt9; have Hown9 := Lib.hid hown9; have Hgrow9 := Lib.hid hgrow9; have Hat9 := Lib.hid hat9; clear hown9 hgrow9 hat9))
  obtain ⟨hS9, hR9⟩ := append_finX HS.out HR.out hlo Hx1.out Hx2.out (fun b hb => .inr hb) Hgrow9.out
  have HS := Lib.hid hS9
  have HR := Lib.hid hR9
  have Hrow := Lib.hid (append_row Hx1.out Hx2.out Hx3.out Hw1.out hlo2 (by omega) Hown9.out Hgrow9.out Hat9.out)
  have Hloc := Lib.hid (show ∀ b, (Value.slice (some ⟨g9, 0, none⟩) (l.length + 1) cap9).ownBlock = some b → (Value.slice a l.length cap).ownBlock = some b ∨ w.heap.size ≤ b from fun b hb => by
    have e : g9 = b := by simpa [Value.ownBlock] using hb
    subst e
    rcases Hat9.out with h | h
    · exact .inl h
    · right; omega)
  have hs9 := Hgrow9.out.size
  simp at hs9
  clear hS9 hR9 Hx1 Hx2 Hx3 Hown9 Hgrow9 Hat9
  go_wp2_with fail
  refine (expect_any HR.out [58, 61] (by decide)).mono ?_
  intro e2 w2 hm2
  refine hm2.cases ?_ ?_
  rotate_left
  focus (intro db sb hrb heb hRb hSb; subst heb; go_wp2_with fail; ((try simp only [Exit.inBlock, Exit.then]); refine post_panic rfl ?_); exact SaysX.bad (HX.out.trans (Res.bind_of_bad hrb _)) (Stays.trans (a := w) (by (exact Stays.au)) (hSb.weak _)) hRb)
  intro a2 s2 v2 hr2 he2 hv2 hR2 hS2
  subst he2
  have HX := Lib.hid (HX.out.trans (Res.bind_of_ok hr2 _))
  have HR := Lib.hid hR2
  have HS := Lib.hid (Stays.trans (a := w) (by (exact Stays.au)) (hS2.weak _))
  have Hr2 := Lib.hid hr2
  have hs2 := hS2.size
  (try simp at hs2)
  clear hm2 hr2 hR2
  obtain rfl := hv2
  go_wp2_with fail
  refine (expr_any HR.out).mono ?_
  intro e3 w3 hm3
  refine hm3.cases ?_ ?_
  rotate_left
  focus (intro db sb hrb heb hRb hSb; subst heb; go_wp2_with fail; ((try simp only [Exit.inBlock, Exit.then]); refine post_panic rfl ?_); exact SaysX.bad (HX.out.trans (Res.bind_of_bad hrb _)) (Stays.trans (a := w) (by (exact Stays.au)) (hSb.weak _)) hRb)
  intro a3 s3 v3 hr3 he3 hv3 hR3 hS3
  subst he3
  have HX := Lib.hid (HX.out.trans (Res.bind_of_ok hr3 _))
  have HR := Lib.hid hR3
  have HS := Lib.hid (Stays.trans (a := w) (by (exact Stays.au)) (hS3.weak _))
  have Hr3 := Lib.hid hr3
  have hs3 := hS3.size
  (try simp at hs3)
  clear hm3 hr3 hR3
  obtain ⟨p3, c3, rfl, hw3⟩ := hv3
  have Hw3 := Lib.hid hw3.lt
  clear hw3
  unfold nodeVal
  obtain ⟨ys, hx1, hx2, hx3⟩ := (Hrow.out.lt.stays hS2).stays hS3
  have el : (l ++ [a1]).length = l.length + 1 := by simp
  rw [el] at hx1
  have Hx1 := Lib.hid hx1
  have Hx2 := Lib.hid hx2
  have Hx3 := Lib.hid hx3
  have El := Lib.hid el
  clear hx1 hx2 hx3 el
  go_wp2_with (first | (at_builtin; (refine wpList_append_lies _ (by rfl) (.tmp 12) (.tmp 15) 23 (by rfl) 0 25 i0 _ 9 104 Tryz.underlying23 hi hz0 hz1 hz2 (by rfl) (by omega) (.slice (some ⟨g9, 0, none⟩) (l.length + 1) cap9) (l.length + 1) ys (by rfl) (Hx1.out.alloc _) ⟨w3.heap.size, 0, none⟩ 1 1 (nodeCells a3 (.slice p3 a3.kids.length c3)) (by rfl) (by rfl) (World.news_of_block (cs := (nodeCells a3 (.slice p3 a3.kids.length c3)).toArray) (t := 25) (fr := (0, 0)) (heap_alloc_new w3 _)) (node_ones _ _ _ _) (by omega) (by unfold maxLen; omega) (by omega) (by omega) (w3.heap.size + 1) (by simp) ?_); intro g8 cap8 w8 hown9 hgrow9 hat9 hlt8; have Hown8 := Lib.hid hown9; have Hgrow8 := Lib.hid hgrow9; have Hat8 := Lib.hid hat9; clear hown9 hgrow9 hat9))
  obtain ⟨hS8, hR8⟩ := append_finX HS.out HR.out hlo Hx1.out Hx2.out (fun b hb => (Hloc.out b hb).symm) Hgrow8.out
  have hrow8 := append_row (l := l ++ [a1]) (by rw [El.out]; exact Hx1.out) Hx2.out Hx3.out (Row.mono Hw3.out (fun b hb => ⟨by have := hb.1; omega, hb.2⟩)) (by omega) (by omega) (by rw [El.out]; exact Hown8.out) Hgrow8.out Hat8.out
  rw [El.out, List.append_assoc] at hrow8
  go_ret
  refine SaysX.ok HX.out (by simp) hS8 hrow8 ?_ hR8
  intro b hb
  have e : g8 = b := by simpa [Value.ownBlock] using hb
  subst e
  rcases Hat8.out with h | h
  · exact Hloc.out _ h
  · right; omega

/-- the assignments that are read, and what is left -/
structure AssOk (l : List T) (k : Nat) (s : St) : Prop where
  a : left s + 1 ≤ k
  b : l.length + 2 * left s ≤ 8000

theorem assign_len {E : Nat} {l l2 : List T} {s s2 : St} (h : Px.assign E l s = .ok l2 s2) : l2.length = l.length + 2 ∧ left s2 < left s := by
  refine ⟨?_, Px.lt_assign _ _ _ _ h⟩
  unfold Px.assign at h
  obtain ⟨r, s1, h1, h⟩ := Px.bind_inv h
  obtain ⟨_, s3, h2, h⟩ := Px.bind_inv h
  obtain ⟨e, s4, h3, h⟩ := Px.bind_inv h
  cases h
  simp

set_option maxRecDepth 100000 in
set_option maxHeartbeats 4000000 in
theorem assigns_rd {B E g lo : Nat} {w : World} {s : St} (h : RdAt B E g w s) {l : List T} {a : Option Addr} {cap : Nat} (hw : RowX (fun b => lo ≤ b) w l (.slice a l.length cap)) (hlo : g < lo) (hlo2 : lo ≤ w.heap.size) (hlen : l.length ≤ 4000) :
    Calls Tryz.prog 193 #[.pointer (some ⟨g, 0, none⟩), .slice a l.length cap] w (SaysX B E g lo (Value.slice a l.length cap).ownBlock w (Px.assigns E l s)) := by
  have hok := Lib.hid h.ok.len
  have Hlen := Lib.hid hlen
  have Hw := Lib.hid hw
  have hlt := h.lt
  have hB := h.le
  have HR := Lib.hid h
  obtain ⟨x, hx⟩ : ∃ x, x = (Value.slice a l.length cap).ownBlock := ⟨_, rfl⟩
  rw [← hx]
  have Hx := Lib.hid hx
  clear h hw hx
  obtain ⟨R, hR⟩ : ∃ R, R = Px.assigns E l s := ⟨_, rfl⟩
  rw [← hR]
  unfold Px.assigns at hR
  have HX := Lib.hid hR
  clear hR hlen
  go_enter Tryz.func193, Tryz.ntmps193
  go_wp2_with fail
  refine (assign_rd HR.out Hw.out hlo hlo2 (by have := Hlen.out; omega)).mono ?_
  intro e1 w1 hm1
  refine hm1.cases ?_ ?_
  rotate_left
  · intro db sb hrb heb hRb hSb
    subst heb
    go_wp2_with fail
    ((try simp only [Exit.inBlock, Exit.then]); refine post_panic rfl ?_)
    exact SaysX.bad (HX.out.trans (Res.bind_of_bad hrb _)) (by rw [Hx.out]; exact hSb) hRb
  intro l1 s1 a1 c1 hr1 he1 hw1 hx1 hR1 hS1
  subst he1
  have hl1 := assign_len hr1
  have HX := Lib.hid (HX.out.trans (Res.bind_of_ok hr1 _))
  have HO := Lib.hid (show AssOk l1 (s1.toks.length + 1) s1 from ⟨Nat.le_refl _, by have := hok.out; have := Hlen.out; unfold Px.left at *; omega⟩)
  have HR := Lib.hid hR1
  rw [← Hx.out] at hx1 hS1
  have HS := Lib.hid hS1
  have Hw1 := Lib.hid hw1
  have Hxl := Lib.hid hx1
  clear hm1 hr1 hR1 hl1 hw1 hx1 hS1
  go_wp2_with fail
  go_loopw [1] (fun kv wr => ∃ (k : Nat) (l2 : List T) (sr : St) (a2 : Option Addr) (c2 : Nat), kv = .slice a2 l2.length c2 ∧ Hid (R = Px.assignsGo E k l2 sr) ∧ Hid (RdAt B E g wr sr) ∧ Hid (Stays B x w wr) ∧ Hid (AssOk l2 k sr) ∧ Hid (RowX (fun b => lo ≤ b) wr l2 (.slice a2 l2.length c2)) ∧ Hid (∀ b, (Value.slice a2 l2.length c2).ownBlock = some b → x = some b ∨ w.heap.size ≤ b)) (fun _ wr => tokLen g wr)
  case atStart => exact ⟨_, l1, s1, a1, c1, rfl, HX, HR, HS, HO, Hw1, Hxl⟩
  case round =>
    obtain ⟨k, l2, sr, a2, c2, rfl, HX, HR, HS, HO, Hw2, Hxl⟩ := hrel
    obtain ⟨k2, rfl⟩ : ∃ k2, k = k2 + 1 := ⟨k - 1, by have := HO.out.a; omega⟩
    have hx := HX.out
    rw [Px.assignsGo] at hx
    have HX := Lib.hid hx
    clear hx
    have hT0 := Lib.hid HR.out.tokLen
    have hSr := HS.out.size
    go_wp2_with fail
    refine (accept_any HR.out [44] (by decide)).mono ?_
    rintro e3 w3 ⟨rfl, hS3, hR3⟩
    have HR := Lib.hid hR3
    have HS := Lib.hid (HS.out.trans (hS3.weak _))
    have hs3 := hS3.size
    clear hR3
    cases hac : Px.accepts E [44] sr
    · have HR := Lib.hid (show RdAt B E g w3 sr by have := HR.out; unfold Px.accepted at this; rw [if_neg (by rw [hac]; decide)] at this; exact this)
      have HX := Lib.hid (HX.out.trans (if_neg (by rw [hac]; decide)))
      clear hac
      go_wp2_with fail
      go_ret
      exact SaysX.ok HX.out rfl HS.out (Hw2.out.stays hS3) Hxl.out HR.out
    · have HR := Lib.hid (show RdAt B E g w3 (Px.rest sr) by have := HR.out; unfold Px.accepted at this; rw [if_pos hac] at this; exact this)
      have HX := Lib.hid (HX.out.trans (if_pos hac))
      have hl3 := Lib.hid (Px.acc_left hac (by decide))
      clear hac
      go_wp2_with fail
      refine (assign_rd HR.out (Hw2.out.stays hS3) hlo (by omega) (by have := HO.out.b; omega)).mono ?_
      intro e4 w4 hm4
      refine hm4.cases ?_ ?_
      rotate_left
      · intro db sb hrb heb hRb hSb
        subst heb
        go_wp2_with fail
        ((try simp only [Exit.inBlock, Exit.then]); refine post_panic rfl ?_)
        exact SaysX.bad (HX.out.trans (Res.bind_of_bad hrb _)) (HS.out.transX hSb Hxl.out) hRb
      intro l4 s4 a4 c4 hr4 he4 hw4 hx4 hR4 hS4
      subst he4
      have hl4 := assign_len hr4
      have HX := Lib.hid (HX.out.trans (Res.bind_of_ok hr4 _))
      have hS44 := HS.out.transX hS4 Hxl.out
      have hx44 : ∀ b, (Value.slice a4 l4.length c4).ownBlock = some b → x = some b ∨ w.heap.size ≤ b := fun b hb => by
        rcases hx4 b hb with h | h
        · exact Hxl.out b h
        · right; omega
      have Hr4 := Lib.hid hr4
      have Hl4 := Lib.hid hl4
      have HR4 := Lib.hid hR4
      have HS44 := Lib.hid hS44
      have Hw4 := Lib.hid hw4
      have Hx44 := Lib.hid hx44
      clear hm4 hr4 hl4 hw4 hx4 hx44 hR4 hS4 hS44
      go_wp2_with fail
      go_round
      case rel => exact ⟨k2, l4, s4, a4, c4, rfl, HX, HR4, HS44, Lib.hid ⟨by have := HO.out.a; have := Hl4.out; have := hl3.out; omega, by have := HO.out.b; have := Hl4.out; have := hl3.out; omega⟩, Hw4, Hx44⟩
      case measure => rw [HR4.out.tokLen, hT0.out]; have := Hl4.out; have := hl3.out; omega

set_option maxRecDepth 100000 in
set_option maxHeartbeats 4000000 in
theorem with_rd {B E g lo : Nat} {w : World} {s : St} (h : RdAt B E g w s) {l : List T} {a : Option Addr} {cap : Nat} (hw : RowX (fun b => lo ≤ b) w l (.slice a l.length cap)) (hlo : g < lo) (hlo2 : lo ≤ w.heap.size) (hlen : l.length ≤ 4000) :
    Calls Tryz.prog 194 #[.pointer (some ⟨g, 0, none⟩), .slice a l.length cap] w (SaysX B E g lo (Value.slice a l.length cap).ownBlock w (Px.withs E l s)) := by
  have Hlen := Lib.hid hlen
  have Hw := Lib.hid hw
  have HR := Lib.hid h
  obtain ⟨x, hx⟩ : ∃ x, x = (Value.slice a l.length cap).ownBlock := ⟨_, rfl⟩
  rw [← hx]
  have Hx := Lib.hid hx
  clear h hw hx
  obtain ⟨R, hR⟩ : ∃ R, R = Px.withs E l s := ⟨_, rfl⟩
  rw [← hR]
  unfold Px.withs at hR
  have HX := Lib.hid hR
  clear hR hlen
  go_enter Tryz.func194, Tryz.ntmps194
  go_wp2_with fail
  refine (accept_any HR.out [119, 105, 116, 104] (by decide)).mono ?_
  rintro e3 w3 ⟨rfl, hS3, hR3⟩
  have HR := Lib.hid hR3
  have hs3 := hS3.size
  clear hR3
  cases hac : Px.accepts E [119, 105, 116, 104] s
  · have HR := Lib.hid (show RdAt B E g w3 s by have := HR.out; unfold Px.accepted at this; rw [if_neg (by rw [hac]; decide)] at this; exact this)
    have HX := Lib.hid (HX.out.trans (if_neg (by rw [hac]; decide)))
    clear hac
    go_wp2_with fail
    go_ret
    exact SaysX.ok HX.out rfl (hS3.weak _) (Hw.out.stays hS3) (fun b hb => .inl (by rw [Hx.out]; exact hb)) HR.out
  · have HR := Lib.hid (show RdAt B E g w3 (Px.rest s) by have := HR.out; unfold Px.accepted at this; rw [if_pos hac] at this; exact this)
    have HX := Lib.hid (HX.out.trans (if_pos hac))
    clear hac
    go_wp2_with fail
    refine (assigns_rd HR.out (Hw.out.stays hS3) hlo (by omega) Hlen.out).mono ?_
    intro e4 w4 hm4
    rw [← Hx.out] at hm4
    refine hm4.cases ?_ ?_
    rotate_left
    · intro db sb hrb heb hRb hSb
      subst heb
      go_wp2_with fail
      ((try simp only [Exit.inBlock, Exit.then]); refine post_panic rfl ?_)
      exact SaysX.bad (HX.out.trans hrb) ((hS3.weak _).trans hSb) hRb
    intro l4 s4 a4 c4 hr4 he4 hw4 hx4 hR4 hS4
    subst he4
    have HX := Lib.hid (HX.out.trans hr4)
    have Hf := Lib.hid (show Stays B x w w4 from (hS3.weak _).trans hS4)
    have HR4 := Lib.hid hR4
    have Hw4 := Lib.hid hw4
    have Hx4 := Lib.hid (show ∀ b, (Value.slice a4 l4.length c4).ownBlock = some b → x = some b ∨ w.heap.size ≤ b from fun b hb => by
      rcases hx4 b hb with h | h
      · exact .inl h
      · right; omega)
    clear hm4 hr4 hw4 hx4 hR4 hS4
    go_wp2_with fail
    go_ret
    exact SaysX.ok HX.out rfl Hf.out Hw4.out Hx4.out HR4.out
end Go.Proofs.YtbgpboiblggmiaaGreatDoor

