/-
  The law's own items: the offsets of the items of a tree's lists, appended to a slice that came in.
-/
import Derived.Test.YtdiogcedlppioaaGreatDoorQLwu
import Derived.Test.YtdiogcedlppioaaGreatDoorQRch
import Derived.Deep.AppendLies
set_option linter.unusedVariables false
set_option linter.unusedSimpArgs false
namespace Go.Proofs.YtdiogcedlppioaaGreatDoor
open Go.RowKit
open Px (St T D Res itemsT itemsG isList)

theorem infoIt : (Tryz.prog.info? 3).map (fun i => (i.zero, i.size, i.bytes)) = some (some (.int .i64 0), 1, 8) := by kernel_rfl
def offV (i : Int) : Value := .int .i64 i
/-- only the slice's own block and new blocks have changed -/
structure Gr (w w' : World) (v v' : Value) : Prop where
  grown : w.grownBy w' v.ownBlock
  own : ∀ j, v'.ownBlock = some j → v.ownBlock = some j ∨ w.heap.size ≤ j
theorem Gr.refl (w : World) (v : Value) : Gr w w v v := ⟨World.grownBy.refl _ _, fun _ h => .inl h⟩
theorem Gr.trans {w w1 w2 : World} {v v1 v2 : Value} (a : Gr w w1 v v1) (b : Gr w1 w2 v1 v2) : Gr w w2 v v2 := by
  refine ⟨⟨b.grown.os.trans a.grown.os, b.grown.tape.trans a.grown.tape, b.grown.output.trans a.grown.output, Nat.le_trans a.grown.size b.grown.size, fun k hk hne => ?_⟩, fun j hj => ?_⟩
  · refine (b.grown.block k (Nat.lt_of_lt_of_le hk a.grown.size) (fun h => ?_)).trans (a.grown.block k hk hne)
    rcases a.own k h.symm with h1 | h1
    · exact hne h1.symm
    · omega
  · rcases b.own j hj with h | h
    · exact a.own j h
    · exact .inr (Nat.le_trans a.grown.size h)
theorem Gr.alloc {w w1 : World} {v v1 : Value} (a : Gr w w1 v v1) (o : Obj) : Gr w (w1.alloc o) v v1 := a.trans ⟨World.grownBy_alloc w1 o _, fun _ h => .inl h⟩
theorem Gr.below {w w' : World} {v v' : Value} (a : Gr w w' v v') {B : Nat} (hB : B ≤ w.heap.size) (hv : ∀ j, v.ownBlock = some j → B ≤ j) : Below B w w' := (Below.refl B w).grown a.grown hB hv

theorem sizes_app : ∀ l m : List T, Px.sizes (l ++ m) = Px.sizes l + Px.sizes m
  | [], m => by rw [List.nil_append, Px.sizes]; omega
  | t :: l, m => by rw [List.cons_append, Px.sizes, Px.sizes, sizes_app l m]; omega
theorem size_mem : ∀ {l : List T} {t : T}, t ∈ l → Px.size t ≤ Px.sizes l
  | x :: r, t, h => by
    rw [Px.sizes]
    rcases List.mem_cons.1 h with rfl | h
    · omega
    · have := size_mem h; omega
theorem itemsG_len (b : Bool) : ∀ l : List T, (∀ t ∈ l, (itemsT t).length + 1 ≤ Px.size t) → (itemsG b l).length ≤ Px.sizes l
  | [], _ => by rw [itemsG, Px.sizes]; exact Nat.le_refl _
  | t :: r, h => by
    rw [itemsG, Px.sizes]
    have h1 := itemsG_len b r (fun u hu => h u (by simp [hu]))
    have h2 := h t (by simp)
    have h3 : (if b then [t.off] else [] : List Int).length ≤ 1 := by cases b <;> simp
    rw [List.length_append, List.length_append]
    omega
theorem itemsT_len : ∀ (n : Nat) (t : T), Px.size t ≤ n → (itemsT t).length + 1 ≤ Px.size t
  | 0, t, h => by cases t; rw [Px.size] at h; omega
  | n + 1, .mk k _ _ _ _ _ _ kids _, h => by
    rw [itemsT]
    rw [Px.size] at h ⊢
    have := itemsG_len (isList k) kids (fun t ht => itemsT_len n t (by have := size_mem ht; omega))
    omega
theorem itemsT_of (t : T) : itemsT t = itemsG (isList t.kind) t.kids := by cases t; rw [itemsT]; rfl
theorem itemsG_snoc (b : Bool) (l : List T) (u : T) : itemsG b (l ++ [u]) = itemsG b l ++ ((if b then [u.off] else []) ++ itemsT u) := by
  rw [Px.items_app, itemsG, itemsG, List.append_nil]

def ItemsSaid (B : Nat) (r : List Int) (v0 : Value) (w : World) (e : Ending) (w' : World) : Prop :=
  ∃ v', e = .returned v' ∧ w'.ownsRow B 3 1 v' r.length (r.map offV) ∧ Gr w w' v0 v'

set_option maxRecDepth 100000 in
set_option maxHeartbeats 4000000 in
theorem items_any : ∀ (n : Nat) (t : T) (B : Nat) (a : Option Addr) (cap : Nat) (v0 : Value) (l : List Int) (w : World), Px.size t ≤ n → l.length + Px.size t ≤ 100000 → B ≤ w.heap.size →
    RRow B w t.kids (.slice a t.kids.length cap) → w.ownsRow B 3 1 v0 l.length (l.map offV) →
    Calls Tryz.prog 30 #[nodeVal t (.slice a t.kids.length cap), v0] w (ItemsSaid B (l ++ itemsT t) v0 w)
  | 0, t, _, _, _, _, _, _, hn, _, _, _, _ => by cases t; rw [Px.size] at hn; omega
  | n + 1, t, B, a, cap, v0, l, w, hn, hl, hBw, hk, hown => by
    obtain ⟨i0, hi, hz0, hz1, hz2⟩ := info_parts infoIt
    have ih := Lib.hid (items_any n)
    have Hk := Lib.hid hk
    have hs : Px.sizes t.kids ≤ n ∧ l.length + Px.sizes t.kids + 1 ≤ 100000 := by
      cases t
      rw [Px.size] at hn hl
      simp only [Px.T.kids]
      omega
    have hlen : t.kids.length ≤ maxLen := hk.len
    have hmax : maxLen ≤ 9223372036854775807 := by decide
    obtain ⟨b, hb⟩ : ∃ b, b = isList t.kind := ⟨_, rfl⟩
    obtain ⟨R, hR⟩ : ∃ R, R = l ++ itemsT t := ⟨_, rfl⟩
    rw [← hR]
    have HR := Lib.hid (show R = l ++ itemsG b t.kids by rw [hR, itemsT_of, hb])
    have hv0 : ∀ j, v0.ownBlock = some j → B ≤ j ∧ j < w.heap.size := hown.lt
    have Hv0 := Lib.hid hv0
    have Hown := Lib.hid hown
    have Hb := Lib.hid hb
    clear hk hn hl hR hv0 hown hb
    unfold nodeVal
    go_enter Tryz.func30, Tryz.ntmps30
    go_upto_region 1 with (fail)
    obtain ⟨W, hW⟩ : ∃ W, W = w.alloc (.cells #[.int .i64 t.kind, .string ⟨t.name.toArray⟩, .string ⟨t.other.toArray⟩, .int .i64 t.n, .int .i64 t.len, .int .i64 t.init, .bool t.ghost, .slice a t.kids.length cap, .int .i64 t.off] 25) := ⟨_, rfl⟩
    have hW1 : W.heap.size = w.heap.size + 1 := by rw [hW]; simp
    have HW := Lib.hid hW
    have hW7 : W.cell? ⟨w.heap.size, 7, none⟩ = some (.slice a t.kids.length cap) := by rw [hW]; exact cell_of_obj (obj_new _ _) 7
    have hW0 : W.cell? ⟨w.heap.size, 0, none⟩ = some (.int .i64 t.kind) := by rw [hW]; exact cell_of_obj (obj_new _ _) 0
    have HownW := Lib.hid (show W.ownsRow B 3 1 v0 l.length (l.map offV) by rw [hW]; exact Hown.out.alloc _)
    rw [← hW]
    clear hW Hown
    have HF := Lib.hid (show ∀ wx vx, Gr W wx v0 vx → wx.cell? ⟨w.heap.size, 7, none⟩ = some (.slice a t.kids.length cap) ∧ Below B w wx ∧ W.heap.size ≤ wx.heap.size from fun wx vx g =>
      ⟨(g.grown.cell_far ⟨w.heap.size, 7, none⟩ (by rw [hW1]; exact Nat.lt_succ_self _) (fun h => absurd (Hv0.out w.heap.size h.symm).2 (Nat.lt_irrefl _))).trans hW7,
        (by rw [HW.out]; exact (Below.refl B w).alloc hBw _ : Below B w W).trans (g.below (by omega) (fun j hj => (Hv0.out j hj).1)), g.grown.size⟩)
    go_cut [5] (fun v wx => v = .bool b ∧ wx = W)
    case first =>
      obtain ⟨c62, h62⟩ : ∃ c, (t.kind == 62) = c := ⟨_, rfl⟩
      obtain ⟨c60, h60⟩ : ∃ c, (t.kind == 60) = c := ⟨_, rfl⟩
      obtain ⟨c51, h51⟩ : ∃ c, (t.kind == 51) = c := ⟨_, rfl⟩
      obtain ⟨c34, h34⟩ : ∃ c, (t.kind == 34) = c := ⟨_, rfl⟩
      have hbb : b = (c62 || c60 || c51 || c34) := by rw [Hb.out, ← h62, ← h60, ← h51, ← h34]; rfl
      subst hbb
      clear HF HR
      cases c62
      · cases c60
        · cases c51
          · cases c34
            · go_wp2_with fail
              go_meet
              exact ⟨rfl, rfl⟩
            · go_wp2_with fail
              go_meet
              exact ⟨rfl, rfl⟩
          · go_wp2_with fail
            go_meet
            exact ⟨rfl, rfl⟩
        · go_wp2_with fail
          go_meet
          exact ⟨rfl, rfl⟩
      · go_wp2_with fail
        go_meet
        exact ⟨rfl, rfl⟩
    case rest =>
      obtain ⟨rfl, rfl⟩ := hcut
      go_wp2_with fail
      go_loopw [1, 6] (fun v i wr => ∃ k : Nat, k ≤ t.kids.length ∧ i = .int .i64 k ∧ Hid (wr.ownsRow B 3 1 v (l ++ itemsG b (t.kids.take k)).length ((l ++ itemsG b (t.kids.take k)).map offV)) ∧ Hid (Gr wc wr v0 v)) (fun _ i _ => t.kids.length - (intOf i).toNat)
      case atStart => exact ⟨0, by omega, rfl, Lib.hid (by rw [List.take_zero, itemsG, List.append_nil]; exact HownW.out), Lib.hid (Gr.refl _ _)⟩
      case round =>
        obtain ⟨k, hk, rfl, Hown, Hg⟩ := hrel
        obtain ⟨c7, hbw, hsw⟩ := HF.out _ _ Hg.out
        by_cases hlt : k < t.kids.length
        · obtain ⟨u, hu⟩ : ∃ u, t.kids[k]? = some u := ⟨_, List.getElem?_eq_getElem hlt⟩
          have hk0 : (0 : Int) ≤ (k : Int) := Int.natCast_nonneg _
          have hk1 : (k : Int) < (t.kids.length : Int) := by omega
          have htk : t.kids.take (k + 1) = t.kids.take k ++ [u] := take_snoc _ _ _ hu
          have hus : Px.size u ≤ n ∧ (l ++ itemsG b (t.kids.take k)).length + 1 + Px.size u ≤ 100000 := by
            have h1 := itemsG_len b (t.kids.take k) (fun t _ => itemsT_len _ t (Nat.le_refl _))
            have h2 : Px.sizes t.kids = Px.sizes (t.kids.take k) + Px.sizes (t.kids.drop k) := by rw [← sizes_app, List.take_append_drop]
            rw [sizes_drop hu, Px.sizes] at h2
            rw [List.length_append]
            omega
          obtain ⟨bb, o, ka, kc, ha, hbb, hrow, h9⟩ := Hk.out.get hu
          subst ha
          obtain ⟨d0, d1, d2, d3, d4, d5, d6, d7, d8⟩ := h9.below hbw hbb
          obtain ⟨q, hq⟩ : ∃ q, q = l ++ itemsG b (t.kids.take k) := ⟨_, rfl⟩
          rw [← hq] at Hown hus
          have Hq := Lib.hid (show l ++ itemsG b (t.kids.take (k + 1)) = q ++ ((if b then [u.off] else []) ++ itemsT u) by rw [hq, htk, itemsG_snoc, List.append_assoc])
          have Hus := Lib.hid hus
          have Hrow := Lib.hid hrow
          have H9 := Lib.hid h9
          have Hbw := Lib.hid hbw
          have hBr : B ≤ wr.heap.size := Nat.le_trans hBw hbw.size
          clear hq htk hus hrow hbw hu h9 HR
          cases b with
          | false =>
            have Hcall := Lib.hid (ih.out u B ka kc _ q wr Hus.out.1 (by have := Hus.out.2; omega) hBr (Hrow.out.below Hbw.out) Hown.out)
            go_wp2_with fail
            refine Hcall.out.mono ?_
            rintro e w2 ⟨v2, rfl, hown2, hg2⟩
            have Hown2 := Lib.hid hown2
            have Hg2 := Lib.hid hg2
            clear hown2 hg2
            go_wp2_with fail
            go_roundw
            case rel => exact ⟨k + 1, by omega, by go_num, Lib.hid (by rw [Hq.out]; exact Hown2.out), Lib.hid (Hg.out.trans Hg2.out)⟩
            case measure => simp [intOf]; omega
          | true =>
            have hmx : (100001 : Nat) ≤ maxLen := by decide
            have hq1 : q.length + 1 ≤ 100000 := by have := Hus.out.2; omega
            go_wp2_with (at_builtin; (refine wpList_append_lies _ rfl (.tmp 33) (.tmp 40) 40 rfl B 3 i0 (.int .i64 0) 1 8 Tryz.underlying40 hi hz0 hz1 hz2 rfl (by decide) _ q.length _ rfl (Hown.out.alloc _) ⟨wr.heap.size, 0, none⟩ 1 1 [.int .i64 u.off] rfl rfl (World.news_of_block (cs := #[.int .i64 u.off]) (obj_new wr _)) (by simp [Value.oneCell']) (by decide) (by omega) (by omega) (by simp; omega) _ rfl ?_); intro g capA wA hownA hgrowA hlieA hltA; have hGA : Gr wr wA _ (.slice (some ⟨g, 0, none⟩) (q.length + 1) capA) := ((Gr.refl wr _).alloc _).trans ⟨hgrowA, fun j hj => by have e : g = j := Option.some.inj hj; subst e; exact hlieA.elim .inl (fun h => .inr (Nat.le_of_eq h.symm))⟩; obtain ⟨c7a, hbwA, hswA⟩ := HF.out _ _ (Hg.out.trans hGA); obtain ⟨e0, e1, e2, e3, e4, e5, e6, e7, e8⟩ := H9.out.below hbwA hbb; have HownA := Lib.hid hownA; have HGA := Lib.hid hGA; have HbwA := Lib.hid hbwA; clear hownA hgrowA hlieA hltA hGA hbwA c7 d0 d1 d2 d3 d4 d5 d6 d7 d8)
            have Hcall := Lib.hid (ih.out u B ka kc (.slice (some ⟨g, 0, none⟩) (q.length + 1) capA) (q ++ [u.off]) wA Hus.out.1 (by rw [List.length_append]; exact Hus.out.2) (Nat.le_trans hBw HbwA.out.size) (Hrow.out.below HbwA.out) (by rw [List.map_append, List.length_append]; exact HownA.out))
            refine Hcall.out.mono ?_
            rintro e w2 ⟨v2, rfl, hown2, hg2⟩
            have Hown2 := Lib.hid hown2
            have Hg2 := Lib.hid hg2
            clear hown2 hg2
            go_wp2_with fail
            go_roundw
            case rel => exact ⟨k + 1, by omega, by go_num, Lib.hid (by rw [Hq.out, if_pos trivial, ← List.append_assoc]; exact Hown2.out), Lib.hid (Hg.out.trans (HGA.out.trans Hg2.out))⟩
            case measure => simp [intOf]; omega
        · obtain rfl : k = t.kids.length := by omega
          go_wp2_with fail
          refine bodyPost_ret (v := _) ?_ rfl ⟨_, rfl, ?_, (by rw [HW.out]; exact (Gr.refl w v0).alloc _ : Gr w wc v0 v0).trans Hg.out⟩
          · simp [results, Tryz.results30, go_sem]
          · have h1 := Hown.out
            rw [List.take_length, ← HR.out] at h1
            exact h1
end Go.Proofs.YtdiogcedlppioaaGreatDoor

