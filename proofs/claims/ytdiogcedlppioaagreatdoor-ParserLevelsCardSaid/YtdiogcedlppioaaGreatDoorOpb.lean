/-
  All binary operators and their levels (operators).
-/
import Derived.Test.YtdiogcedlppioaaGreatDoorLva
import Derived.Test.YtdiogcedlppioaaGreatDoorBaseF
import Derived.Deep.AppendLies
set_option linter.unusedVariables false
set_option linter.unusedSimpArgs false
namespace Go.Proofs.YtdiogcedlppioaaGreatDoor
open Go.RowKit
open Px (St T D Res)

theorem infoStr : (Tryz.prog.info? 9).map (fun i => (i.zero, i.size, i.bytes)) = some (some (.string ⟨#[]⟩), 1, 16) := by kernel_rfl
theorem infoInt : (Tryz.prog.info? 3).map (fun i => (i.zero, i.size, i.bytes)) = some (some (.int .i64 0), 1, 8) := by kernel_rfl

/-- what stands in the row of operators behind i whole levels and k operators -/
def opsL (i k : Nat) : List Px.Str := [61, 61, 62] :: ((lvls.take i).flatten ++ (lvls.getD i []).take k)
/-- their levels -/
def levL (i k : Nat) : List Nat := 0 :: ((List.range i).flatMap (fun j => List.replicate (lvls.getD j []).length (j + 1)) ++ List.replicate k (i + 1))
def opV (x : Px.Str) : Value := .string ⟨x.toArray⟩
def levV (n : Nat) : Value := .int .i64 (n : Int)

theorem ops_step {i k : Nat} {l : List Px.Str} (hi : lvls[i]? = some l) (hk : k < l.length) :
    i < 8 ∧ ∃ x, l[k]? = some x ∧ opsL i (k + 1) = opsL i k ++ [x] ∧ levL i (k + 1) = levL i k ++ [i + 1] ∧ (opsL i k).length ≤ 12 ∧ (levL i k).length = (opsL i k).length := by
  rcases i with _ | _ | _ | _ | _ | _ | _ | _ | i
  all_goals first | (simp [lvls] at hi; done) | skip
  all_goals
    (simp [lvls] at hi; subst hi; refine ⟨by omega, ?_⟩; rcases k with _ | _ | _ | _ | k)
  all_goals first | (refine ⟨_, rfl, ?_, ?_, ?_, ?_⟩ <;> decide) | (exact absurd hk (by simp <;> omega))
theorem ops_row {i : Nat} {l : List Px.Str} (hi : lvls[i]? = some l) : i < 8 ∧ l.length ≤ 4 ∧ opsL i l.length = opsL (i + 1) 0 ∧ levL i l.length = levL (i + 1) 0 := by
  rcases i with _ | _ | _ | _ | _ | _ | _ | _ | i
  all_goals first | (simp [lvls] at hi; done) | skip
  all_goals (simp [lvls] at hi; subst hi; refine ⟨by omega, by decide, ?_, ?_⟩ <;> decide)
theorem lvls_get {i : Nat} (h : i < 8) : ∃ l, lvls[i]? = some l := ⟨_, List.getElem?_eq_getElem (by simpa [lvls] using h)⟩

theorem LvAt.keep {W W' : World} {g : Nat} (h : LvAt W g) (hs : W.heap.size ≤ W'.heap.size) (hk : ∀ b, g ≤ b → b < g + 9 → W'.heap[b]? = W.heap[b]?) : LvAt W' g := by
  have hc : ∀ b o, g ≤ b → b < g + 9 → W'.cell? ⟨b, o, none⟩ = W.cell? ⟨b, o, none⟩ := fun b o h1 h2 => by
    simp only [World.cell?, hk b h1 h2]
  refine ⟨Nat.le_trans h.size hs, fun i l hi => ?_, fun i l k x hi hk' => ?_⟩
  · rw [hc _ _ (by omega) (by omega)]
    exact h.outer i l hi
  · have : i < 8 := (ops_row hi).1
    rw [hc _ _ (by omega) (by omega)]
    exact h.inner i l k x hi hk'
theorem LvAt.alloc {W : World} {g : Nat} (h : LvAt W g) (o : Obj) : LvAt (W.alloc o) g :=
  h.keep (by simp) (fun b _ h2 => by have := h.size; exact Below.heap_alloc _ _ _ (by omega))
theorem LvAt.grownAt {W W' : World} {g b : Nat} (h : LvAt W g) (hg : W.grownBy W' (some b)) (hb : b < g ∨ g + 9 ≤ b) : LvAt W' g :=
  h.keep hg.size (fun k h1 h2 => hg.block k (by have := h.size; omega) (by intro e; have := Option.some.inj e; omega))

/-- the two rows, the table, what is below -/
structure OpsAt (w : World) (g : Nat) (W : World) (b1 n c1 b2 m c2 : Nat) (l1 : List Px.Str) (l2 : List Nat) : Prop where
  below : Below w.heap.size w W
  base : w.heap.size + 2 ≤ g
  tab : LvAt W g
  ne : b1 ≠ b2
  far1 : b1 < g ∨ g + 9 ≤ b1
  far2 : b2 < g ∨ g + 9 ≤ b2
  row1 : W.ownsRow w.heap.size 9 1 (.slice (some ⟨b1, 0, none⟩) n c1) n (l1.map opV)
  row2 : W.ownsRow w.heap.size 3 1 (.slice (some ⟨b2, 0, none⟩) m c2) m (l2.map levV)

theorem OpsAt.size {w W : World} {g b1 n c1 b2 m c2 : Nat} {l1 : List Px.Str} {l2 : List Nat} (h : OpsAt w g W b1 n c1 b2 m c2 l1 l2) : g + 9 ≤ W.heap.size ∧ w.heap.size ≤ W.heap.size ∧ w.heap.size ≤ b1 ∧ b1 < W.heap.size ∧ w.heap.size ≤ b2 ∧ b2 < W.heap.size :=
  ⟨h.tab.size, h.below.size, (h.row1.lt b1 rfl).1, (h.row1.lt b1 rfl).2, (h.row2.lt b2 rfl).1, (h.row2.lt b2 rfl).2⟩
theorem OpsAt.alloc {w W : World} {g b1 n c1 b2 m c2 : Nat} {l1 : List Px.Str} {l2 : List Nat} (h : OpsAt w g W b1 n c1 b2 m c2 l1 l2) (o : Obj) : OpsAt w g (W.alloc o) b1 n c1 b2 m c2 l1 l2 :=
  ⟨h.below.alloc h.below.size o, h.base, h.tab.alloc o, h.ne, h.far1, h.far2, h.row1.alloc o, h.row2.alloc o⟩
theorem OpsAt.add1 {w W W' : World} {g b1 n c1 b2 m c2 b c : Nat} {l1 : List Px.Str} {l2 : List Nat} {x : Px.Str} (h : OpsAt w g W b1 n c1 b2 m c2 l1 l2)
    (hown : W'.ownsRow w.heap.size 9 1 (.slice (some ⟨b, 0, none⟩) (n + 1) c) (n + 1) (l1.map opV ++ [opV x])) (hg : W.grownBy W' (some b1)) (hat : b = b1 ∨ b = W.heap.size) :
    OpsAt w g W' b (n + 1) c b2 m c2 (l1 ++ [x]) l2 := by
  obtain ⟨s1, s2, s3, s4, s5, s6⟩ := h.size
  have hne := h.ne
  have hf := h.far1
  refine ⟨h.below.grown hg h.below.size (fun k hk => by cases hk; exact s3), h.base, h.tab.grownAt hg hf, ?_, ?_, h.far2, ?_, ?_⟩
  · rcases hat with e | e <;> omega
  · rcases hat with e | e <;> omega
  · rw [List.map_append]; exact hown
  · exact h.row2.kept hg (.inr (by intro e; exact hne (Option.some.inj e).symm))
theorem OpsAt.add2 {w W W' : World} {g b1 n c1 b2 m c2 b c : Nat} {l1 : List Px.Str} {l2 : List Nat} {x : Nat} (h : OpsAt w g W b1 n c1 b2 m c2 l1 l2)
    (hown : W'.ownsRow w.heap.size 3 1 (.slice (some ⟨b, 0, none⟩) (m + 1) c) (m + 1) (l2.map levV ++ [levV x])) (hg : W.grownBy W' (some b2)) (hat : b = b2 ∨ b = W.heap.size) :
    OpsAt w g W' b1 n c1 b (m + 1) c l1 (l2 ++ [x]) := by
  obtain ⟨s1, s2, s3, s4, s5, s6⟩ := h.size
  have hne := h.ne
  have hf := h.far2
  refine ⟨h.below.grown hg h.below.size (fun k hk => by cases hk; exact s5), h.base, h.tab.grownAt hg hf, ?_, h.far1, ?_, ?_, ?_⟩
  · rcases hat with e | e <;> omega
  · rcases hat with e | e <;> omega
  · exact h.row1.kept hg (.inr (by intro e; exact hne (Option.some.inj e)))
  · rw [List.map_append]; exact hown

set_option maxRecDepth 100000 in
set_option maxRecDepth 100000 in
set_option maxHeartbeats 2000000 in
theorem operators_any (w : World) : Calls Tryz.prog 22 #[] w fun e w' => ∃ b1 c1 b2 c2, e = .returned (.tuple #[.slice (some ⟨b1, 0, none⟩) 13 c1, .slice (some ⟨b2, 0, none⟩) 13 c2]) ∧ Below w.heap.size w w' ∧
    w'.ownsRow w.heap.size 9 1 (.slice (some ⟨b1, 0, none⟩) 13 c1) 13 ((opsL 8 0).map opV) ∧ w'.ownsRow w.heap.size 3 1 (.slice (some ⟨b2, 0, none⟩) 13 c2) 13 ((levL 8 0).map levV) := by
  obtain ⟨i0, hi, hz0, hz1, hz2⟩ := info_parts infoStr
  obtain ⟨j0, hj, hy0, hy1, hy2⟩ := info_parts infoInt
  go_enter Tryz.func22, Tryz.ntmps22
  go_wp2_with fail
  obtain ⟨W, hW⟩ : ∃ W, W = (w.alloc (.cells #[.string ⟨#[61, 61, 62]⟩] 9)).alloc (.cells #[.int .i64 0] 3) := ⟨_, rfl⟩
  have hWs : W.heap.size = w.heap.size + 2 := by rw [hW]; simp
  have r1 : W.ownsRow w.heap.size 9 1 (.slice (some ⟨w.heap.size, 0, none⟩) 1 1) 1 ([[61, 61, 62]].map opV) := by
    rw [hW]; exact (World.ownsRow_lit w #[.string ⟨#[61, 61, 62]⟩] 1 (Nat.le_refl _) (by decide) rfl).alloc _
  have r2 : W.ownsRow w.heap.size 3 1 (.slice (some ⟨w.heap.size + 1, 0, none⟩) 1 1) 1 ([0].map levV) := by
    rw [hW]; have := World.ownsRow_lit (base := w.heap.size) (e := 3) (size := 1) (w.alloc (.cells #[.string ⟨#[61, 61, 62]⟩] 9)) #[.int .i64 0] 1 (by simp) (by decide) rfl
    simpa [levV] using this
  have hWb : Below w.heap.size w W := by rw [hW]; exact ((Below.refl _ _).alloc (Nat.le_refl _) _).alloc (by simp) _
  rw [← hW]
  clear hW
  refine (levels_any W).mono ?_
  rintro e w1 ⟨rfl, hb, hl⟩
  obtain ⟨g, hgd⟩ : ∃ g, g = W.heap.size := ⟨_, rfl⟩
  have Hst := Lib.hid (show OpsAt w g w1 w.heap.size 1 1 (w.heap.size + 1) 1 1 (opsL 0 0) (levL 0 0) by
    refine ⟨hWb.trans (hb.mono (by omega)), by omega, by rw [hgd]; exact hl, by omega, .inl (by omega), .inl (by omega), ?_, ?_⟩
    · exact r1.kept (row := none) ⟨hb.os, hb.tape, hb.output, hb.size, fun k hk _ => hb.block k hk⟩ (.inr (by simp [Value.ownBlock]))
    · exact r2.kept (row := none) ⟨hb.os, hb.tape, hb.output, hb.size, fun k hk _ => hb.block k hk⟩ (.inr (by simp [Value.ownBlock])))
  rw [← hgd]
  clear hb hl r1 r2 hWb hgd hWs
  go_wp2_with fail
  go_loopw [2, 3, 5] (fun va vb iv wr => ∃ (i b1 n c1 b2 c2 : Nat), i ≤ 8 ∧ iv = .int .i64 i ∧ va = .slice (some ⟨b1, 0, none⟩) n c1 ∧ vb = .slice (some ⟨b2, 0, none⟩) n c2 ∧ Hid (n = (opsL i 0).length) ∧ Hid (OpsAt w g wr b1 n c1 b2 n c2 (opsL i 0) (levL i 0))) (fun _ _ iv _ => 8 - (intOf iv).toNat)
  case atStart => exact ⟨0, _, 1, 1, _, 1, by omega, rfl, rfl, rfl, Lib.hid rfl, Hst⟩
  case round =>
    obtain ⟨i, b1, n, c1, b2, c2, hi8, rfl, rfl, rfl, Hn, Hs⟩ := hrel
    by_cases hlt : i < 8
    · obtain ⟨l, hl⟩ := lvls_get hlt
      obtain ⟨_, hl4, ho, hv⟩ := ops_row hl
      have Hl := Lib.hid hl
      have Ho := Lib.hid ho
      have Hv := Lib.hid hv
      have ho1 : wr.cell? ⟨g + 8, i, none⟩ = _ := Hs.out.tab.outer i l hl
      have hi0 : (0 : Int) ≤ (i : Int) := Int.natCast_nonneg _
      have hi1 : (i : Int) < 8 := by omega
      clear hl ho hv
      go_wp2_with fail
      go_loopw [2, 3, 6] (fun va vb kv wk => ∃ (k b1 n c1 b2 c2 : Nat), k ≤ l.length ∧ kv = .int .i64 k ∧ va = .slice (some ⟨b1, 0, none⟩) n c1 ∧ vb = .slice (some ⟨b2, 0, none⟩) n c2 ∧ Hid (n = (opsL i k).length) ∧ Hid (OpsAt w g wk b1 n c1 b2 n c2 (opsL i k) (levL i k))) (fun _ _ kv _ => l.length - (intOf kv).toNat)
      case atStart => exact ⟨0, _, _, _, _, _, by omega, rfl, rfl, rfl, Hn, Hs⟩
      case round =>
        obtain ⟨k, b1, n, c1, b2, c2, hkl, rfl, rfl, rfl, Hn, Hs⟩ := hrel
        have ho2 : wr.cell? ⟨g + 8, i, none⟩ = _ := Hs.out.tab.outer i l Hl.out
        have hk0 : (0 : Int) ≤ (k : Int) := Int.natCast_nonneg _
        have hk1 : (k : Int) ≤ l.length := by omega
        by_cases hk : k < l.length
        · obtain ⟨_, x, hx, hso, hsv, hsn, hsm⟩ := ops_step Hl.out hk
          have ho3 : wr.cell? ⟨g + i, k, none⟩ = _ := Hs.out.tab.inner i l k x Hl.out hx
          obtain ⟨s1, s2, s3, s4, s5, s6⟩ := Hs.out.size
          have hnl : n ≤ 12 := by rw [Hn.out]; exact hsn
          have Hsn := Lib.hid hsn
          have Hso := Lib.hid hso
          have Hsv := Lib.hid hsv
          have hk2 : (k : Int) < l.length := by omega
          clear hx hso hsv hsn hsm
          have Hal := Lib.hid (Hs.out.alloc (.cells #[.string ⟨x.toArray⟩] 9)).row1
          have Hnew := Lib.hid (World.news_of_block (cs := #[.string ⟨x.toArray⟩]) (t := 9) (fr := (0, 0)) (heap_alloc_new wr (.cells #[.string ⟨x.toArray⟩] 9)))
          have hbs : w.heap.size ≤ (wr.alloc (.cells #[.string ⟨x.toArray⟩] 9)).heap.size := by simp; omega
          have hone : ∀ u ∈ [Value.string ⟨x.toArray⟩], u.oneCell' = true := by intro u hu; simp at hu; subst hu; rfl
          have hm1 : n + 1 ≤ maxLen := by unfold maxLen; omega
          have hm2 : (n + 1) * 16 ≤ 140737488355328 := by omega
          have hsz : (wr.alloc (.cells #[.string ⟨x.toArray⟩] 9)).heap.size = wr.heap.size + 1 := by simp
          go_wp2_with (first
            | (at_builtin; (refine wpList_append_lies _ rfl (.tmp 25) (.tmp 33) 39 rfl w.heap.size 9 i0 _ 1 16 Tryz.underlying39 hi hz0 hz1 hz2 rfl Nat.one_pos (.slice (some ⟨b1, 0, none⟩) n c1) n ((opsL i k).map opV) rfl Hal.out ⟨wr.heap.size, 0, none⟩ 1 1 [.string ⟨x.toArray⟩] rfl rfl Hnew.out hone Nat.one_pos hm1 hm2 hbs (wr.heap.size + 1) hsz ?_); intro gA cA wA hown hgrow hat hlt; have Hs2 := Lib.hid ((Hs.out.alloc (.cells #[.string ⟨x.toArray⟩] 9)).add1 hown hgrow (hat.imp (fun e => (Option.some.inj e).symm) (fun e => e.trans hsz.symm))); clear Hal Hnew hbs hone hsz hown hgrow hat hlt)
            | (at_builtin; have Hal2 := Lib.hid (Hs2.out.alloc (.cells #[.int .i64 ((i : Int) + 1)] 3)).row2; have Hnew2 := Lib.hid (World.news_of_block (cs := #[.int .i64 ((i : Int) + 1)]) (t := 3) (fr := (0, 0)) (heap_alloc_new wA (.cells #[.int .i64 ((i : Int) + 1)] 3))); obtain ⟨q1, q2, q3, q4, q5, q6⟩ := Hs2.out.size; have hbs2 : w.heap.size ≤ (wA.alloc (.cells #[.int .i64 ((i : Int) + 1)] 3)).heap.size := (by simp; omega); have hone2 : ∀ u ∈ [Value.int .i64 ((i : Int) + 1)], u.oneCell' = true := (by intro u hu; simp at hu; subst hu; rfl); have hm3 : (n + 1) * 8 ≤ 140737488355328 := (by omega); have hsz2 : (wA.alloc (.cells #[.int .i64 ((i : Int) + 1)] 3)).heap.size = wA.heap.size + 1 := (by simp); (refine wpList_append_lies _ rfl (.tmp 35) (.tmp 38) 40 rfl w.heap.size 3 j0 _ 1 8 Tryz.underlying40 hj hy0 hy1 hy2 rfl Nat.one_pos (.slice (some ⟨b2, 0, none⟩) n c2) n ((levL i k).map levV) rfl Hal2.out ⟨wA.heap.size, 0, none⟩ 1 1 [.int .i64 ((i : Int) + 1)] rfl rfl Hnew2.out hone2 Nat.one_pos hm1 hm3 hbs2 (wA.heap.size + 1) hsz2 ?_); intro gB cB wB hown hgrow hat hlt; have Hs3 := Lib.hid ((Hs2.out.alloc (.cells #[.int .i64 ((i : Int) + 1)] 3)).add2 (x := i + 1) (by rw [show levV (i + 1) = Value.int .i64 ((i : Int) + 1) from by simp [levV]]; exact hown) hgrow (hat.imp (fun e => (Option.some.inj e).symm) (fun e => e.trans hsz2.symm))); clear Hal2 Hnew2 hbs2 hone2 hsz2 hown hgrow hat hlt))
          rw [← Hso.out, ← Hsv.out] at Hs3
          go_roundw
          case rel => exact ⟨k + 1, _, n + 1, _, _, _, by omega, by go_num, rfl, rfl, Lib.hid (by rw [Hso.out, List.length_append, ← Hn.out]; rfl), Hs3⟩
          case measure => simp [intOf]; omega
        · obtain rfl : k = l.length := by omega
          have Hs4 := Hs
          rw [Ho.out, Hv.out] at Hs4
          have Hn4 := Hn
          rw [Ho.out] at Hn4
          go_wp2_with fail
          go_roundw
          case rel => exact ⟨i + 1, _, n, _, _, _, by omega, by go_num, rfl, rfl, Hn4, Hs4⟩
          case measure => simp [intOf]; omega
    · obtain rfl : i = 8 := by omega
      have hn13 : n = 13 := Hn.out.trans (by decide)
      subst hn13
      go_wp2_with fail
      refine bodyPost_ret (v := .tuple #[.slice (some ⟨b1, 0, none⟩) 13 c1, .slice (some ⟨b2, 0, none⟩) 13 c2]) ?_ rfl ⟨b1, c1, b2, c2, rfl, Hs.out.below, Hs.out.row1, Hs.out.row2⟩
      simp [results, Tryz.results22, go_sem]
end Go.Proofs.YtdiogcedlppioaaGreatDoor
