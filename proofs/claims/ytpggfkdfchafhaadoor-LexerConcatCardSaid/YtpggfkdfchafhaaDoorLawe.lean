/-
  A walk over Shift: the tokens with greater offsets.
-/
import Derived.Test.YtpggfkdfchafhaaDoorLawd
import Derived.Deep.RegionHeld3
import Derived.Deep.AppendLies
import Derived.Laws.AppendOwnNone
namespace Go.Proofs.YtpggfkdfchafhaaDoor
open Go.RowKit

/-- a token with a greater offset -/
def shiftTok (d : Nat) (t : Lx.Tok) : Lx.Tok := ⟨t.kind, t.text, t.off + d⟩

theorem take_next {α : Type} (l : List α) (k : Nat) (t : α) (h : l[k]? = some t) : l.take (k + 1) = l.take k ++ [t] := by
  obtain ⟨hk, rfl⟩ := List.getElem?_eq_some_iff.1 h
  exact List.take_succ_eq_append_getElem hk

set_option maxRecDepth 100000 in
set_option maxHeartbeats 1000000 in
theorem shift_any (a : Option Addr) (ca Ba d : Nat) (ts : List Lx.Tok) (w : World) (hn : ts.length ≤ 1500) (hd : d ≤ 4001) (hoff : ∀ t ∈ ts, t.off ≤ 4000) (ha : w.ownsRow Ba 30 3 (.slice a ts.length ca) ts.length (toksCells ts)) :
    Calls Tryd.prog 17 #[.slice a ts.length ca, .int .i64 d] w fun e w' => ∃ v, e = .returned v ∧ w'.ownsRow w.heap.size 30 3 v ts.length (toksCells (ts.map (shiftTok d))) ∧ Below w.heap.size w w' := by
  have Ha := Lib.hid ha
  have Hoff := Lib.hid hoff
  clear ha hoff
  obtain ⟨i0, hi, hz0, hz1, hz2⟩ := info_parts infoTok
  go_enter Tryd.func17, Tryd.ntmps17
  go_wp2
  go_loopw [5, 6] (fun v i wr => ∃ k : Nat, k ≤ ts.length ∧ i = .int .i64 k ∧ wr.ownsRow w.heap.size 30 3 v k (toksCells ((ts.take k).map (shiftTok d))) ∧ Below w.heap.size w wr) (fun _ i _ => ts.length - (intOf i).toNat)
  case atStart => exact ⟨0, by omega, rfl, World.ownsRow_nil _ _ _ _, Below.refl _ _⟩
  case round =>
    obtain ⟨k, hk, rfl, hown, hbr⟩ := hrel
    obtain ⟨va, vc, hv⟩ := ownsRow_form hown
    subst hv
    have hbs := hbr.size
    by_cases hlt : k < ts.length
    · obtain ⟨t, ht⟩ : ∃ t, ts[k]? = some t := ⟨_, List.getElem?_eq_getElem hlt⟩
      obtain ⟨g, hga, hgw, hx0, hx1, hx2⟩ := toks_cells Ha.out k t ht
      subst hga
      rw [← hbr.cell (p := ⟨g, k * 3, none⟩) hgw] at hx0
      rw [← hbr.cell (p := ⟨g, k * 3 + 1, none⟩) hgw] at hx1
      rw [← hbr.cell (p := ⟨g, k * 3 + 2, none⟩) hgw] at hx2
      have ho4 : t.off ≤ 4000 := Hoff.out t (List.mem_of_getElem? ht)
      have Ht := Lib.hid ht
      clear ht
      have hs : IntKind.i64.wrap ((t.off : Int) + (d : Int)) = (t.off : Int) + (d : Int) := IntWalk.i64_in _ (by omega)
      have hlg : g < wr.heap.size := by omega
      have hnb : (Value.slice va k vc).ownBlock ≠ some g := by
        intro h
        have := (hown.lt g h).1
        omega
      have hk0 : (0 : Int) ≤ (k : Int) := Int.natCast_nonneg _
      have hk1 : (k : Int) < (ts.length : Int) := by omega
      go_wp2
      go_region_held3 (fun w' => w'.cell? ⟨g, k * 3, none⟩ = some (.int .i64 t.kind) ∧ w'.cell? ⟨g, k * 3 + 1, none⟩ = some (.string ⟨t.text.toArray⟩) ∧ w'.cell? ⟨g, k * 3 + 2, none⟩ = some (.int .i64 t.off))
        (first
          | go_keep
          | (go_split_ands
             refine ⟨?_, ?_, ?_⟩
             · (rw [hgrow.cell_far _ (by simp; omega) (Ne.symm hnb)]; assumption)
             · (rw [hgrow.cell_far _ (by simp; omega) (Ne.symm hnb)]; assumption)
             · (rw [hgrow.cell_far _ (by simp; omega) (Ne.symm hnb)]; assumption)))
        ((refine step_append_lies _ (by rfl) _ _ _ (by rfl) w.heap.size 30 i0 _ 3 32 Tryd.underlying23 hi hz0 hz1 hz2 rfl (by omega) (.slice va k vc) k _ (by rfl) ((hown.alloc _).drew)
            ⟨wr.heap.size, 0, none⟩ 1 1 [.int .i64 t.kind, .string ⟨t.text.toArray⟩, .int .i64 ((t.off : Int) + (d : Int))] (by rfl) (by rfl) (World.news_of_block (cs := #[.int .i64 t.kind, .string ⟨t.text.toArray⟩, .int .i64 ((t.off : Int) + (d : Int))]) (t := 30) (fr := (0, 0)) (heap_alloc_new wr _)) (by simp [Value.oneCell'])
            (by omega) (by unfold maxLen; omega) (by omega) (by simp; omega) (wr.heap.size + 1) (by simp) ?_; intro gg cap w1 hown1 hgrow hat hlt1))
      go_wp2
      refine ⟨⟨k + 1, by omega, by go_num, ?_, ?_⟩, by simp [intOf]; omega⟩
      · rw [take_next ts k t Ht.out, List.map_append, List.map_cons, List.map_nil, toksCells_snoc]
        have e : tokCells (shiftTok d t) = [.int .i64 t.kind, .string ⟨t.text.toArray⟩, .int .i64 ((t.off : Int) + (d : Int))] := by
          unfold tokCells shiftTok
          simp
        rw [e]
        exact hown1
      · exact (Below.drew (hbr.alloc hbs (.cells #[.int .i64 t.kind, .string ⟨t.text.toArray⟩, .int .i64 ((t.off : Int) + (d : Int))] 30))).grown hgrow (by simp; omega) (fun j hj => (hown.lt j hj).1)
    · obtain rfl : k = ts.length := by omega
      rw [List.take_length] at hown
      go_wp2
      go_ret
      exact ⟨_, rfl, hown, hbr⟩

theorem shift_int (a : Option Addr) (ca Ba d : Nat) (x : Int) (ts : List Lx.Tok) (w : World) (hx : x = d) (hn : ts.length ≤ 1500) (hd : d ≤ 4001) (hoff : ∀ t ∈ ts, t.off ≤ 4000) (ha : w.ownsRow Ba 30 3 (.slice a ts.length ca) ts.length (toksCells ts)) :
    Calls Tryd.prog 17 #[.slice a ts.length ca, .int .i64 x] w fun e w' => ∃ v, e = .returned v ∧ w'.ownsRow w.heap.size 30 3 v ts.length (toksCells (ts.map (shiftTok d))) ∧ Below w.heap.size w w' := by
  subst hx
  exact shift_any a ca Ba d ts w hn hd hoff ha

section
variable {P : Program} (w : World)
/-- an append of a row of the call's own, nil or not -/
theorem wpList_append_rows {ops : Array Oper} {rest : List Oper} {o : Oper} {a : Act} {Q : Exit → Act → World → Prop} (hgd : o.guard = none) (s x : Operand) (t : TypeId)
    (ho : o.op = .call { callee := .builtin .append, args := #[s, x], argTypes := #[t, t] })
    (base : Nat) (e : TypeId) (i : TypeInfo) (z : Value) (size bytes : Nat) (ht : P.underlying t = some (.slice e)) (hi : P.info? e = some i) (hz : i.zero = some z)
    (hsize : i.size = size) (hby : i.bytes = bytes) (hzs : z.cells.size = size) (hsz : 0 < size)
    (v : Value) (n : Nat) (xs : List Value) (hs : a.eval s = v) (hown : w.ownsRow base e size v n xs)
    (B2 : Nat) (src : Value) (m : Nat) (news : List Value) (hx : a.eval x = src) (hsrc : w.ownsRow B2 e size src m news) (h1 : ∀ u ∈ news, u.oneCell' = true)
    (h63 : n + m ≤ maxLen) (hbytes : (n + m) * bytes ≤ 140737488355328) (hbase : base ≤ w.heap.size)
    (h : ∀ v' w', w'.ownsRow base e size v' (n + m) (xs ++ news) → w.grownBy w' v.ownBlock → wpList P ops Q rest (a.put o.dst v') w') : wpList P ops Q (o :: rest) a w := by
  have hsrc' := hsrc
  rcases hsrc'.2 with ⟨rfl, h0⟩ | ⟨g, cap, cur, rfl, hr⟩
  · subst h0
    have hnews : news = [] := List.eq_nil_of_length_eq_zero (by rw [hsrc.1, Nat.zero_mul])
    subst hnews
    refine wpList_append_own_none hgd s x t ho base e i size ht hi v n xs hs hown hx (h v w ?_ ⟨rfl, rfl, rfl, Nat.le_refl _, fun _ _ _ => rfl⟩)
    rw [List.append_nil]
    exact hown
  · exact wpList_append_own w hgd s x t ho base e i z size bytes ht hi hz hsize hby hzs hsz v n xs hs hown ⟨g, 0, none⟩ m cap news hx hsrc.1 (hsrc.cells rfl) h1 h63 hbytes hbase (fun v' w' h2 h3 _ => h v' w' h2 h3)
end

theorem toksCells_one (l : List Lx.Tok) : ∀ u ∈ toksCells l, u.oneCell' = true := by
  intro u hu
  obtain ⟨t, _, ht⟩ := List.mem_flatMap.1 hu
  simp only [tokCells, List.mem_cons, List.not_mem_nil, or_false] at ht
  rcases ht with rfl | rfl | rfl <;> rfl
theorem toksCells_append (a b : List Lx.Tok) : toksCells (a ++ b) = toksCells a ++ toksCells b := by simp [toksCells]

end Go.Proofs.YtpggfkdfchafhaaDoor
