/-
  Walks over the reference lexer's table of symbols.
-/
import Derived.Test.YtpggfkdfchafhaaDoorLxRefc
namespace Go.Proofs.YtpggfkdfchafhaaDoor
open Go.RowKit

theorem bcell {W w1 : World} (hb : Below W.heap.size W w1) : (∀ b o, b < W.heap.size → w1.cell? ⟨b, o, none⟩ = W.cell? ⟨b, o, none⟩) ∧ (∀ b o, b < W.heap.size → w1.frozen? ⟨b, o, none⟩ = W.frozen? ⟨b, o, none⟩) :=
  ⟨fun b o h => hb.cell (p := ⟨b, o, none⟩) h, fun b o h => hb.frozen (p := ⟨b, o, none⟩) h⟩

/-- block b holds the texts of a list, a cell each -/
def TextsAt (w : World) (b : Nat) (l : List (List UInt8)) : Prop := ∀ (i : Nat) (t : List UInt8), l[i]? = some t → w.cell? ⟨b, i, none⟩ = some (.string ⟨t.toArray⟩)

theorem textsAt_alloc (w : World) (l : List (List UInt8)) (ty : TypeId) : TextsAt (w.alloc (.cells (l.map fun t => Value.string ⟨t.toArray⟩).toArray ty)) w.heap.size l := by
  intro i t h
  rw [cell_of_row _ w.heap.size i _ ty (0, 0) (heap_alloc_new w _)]
  simp [h]

set_option maxHeartbeats 1000000 in
theorem symbols_any (w : World) :
    Calls Tryd.prog 37 #[] w fun e w' => e = .returned (.slice (some ⟨w.heap.size, 0, none⟩) 27 27) ∧ w' = w.alloc (.cells (Lx.refSyms.map fun t => Value.string ⟨t.toArray⟩).toArray 9) := by
  go_enter Tryd.func37, Tryd.ntmps37
  go_wp2
  go_ret
  exact ⟨rfl, rfl⟩

theorem symbols_at (w : World) :
    Calls Tryd.prog 37 #[] w fun e w' => e = .returned (.slice (some ⟨w.heap.size, 0, none⟩) 27 27) ∧ Below w.heap.size w w' ∧ TextsAt w' w.heap.size Lx.refSyms := by
  refine (symbols_any w).mono fun e w' ⟨he, hw⟩ => ?_
  subst hw
  exact ⟨he, (Below.refl _ _).alloc (Nat.le_refl _) _, textsAt_alloc w Lx.refSyms 9⟩

theorem beginsB (s : ByteArray) (t : List UInt8) (a : Nat) (b : Bool) (w : World) (h1 : a ≤ s.size) (hs : s.size ≤ 4000) (ht : t.length ≤ 3) (hb : Lx.begins s.data.toList t a = b) :
    Calls Tryd.prog 32 #[.string s, .int .i64 a, .string ⟨t.toArray⟩] w fun e w' => e = .returned (.bool b) ∧ w = w' := by
  subst hb
  have h := begins_any s ⟨t.toArray⟩ a w (by omega) (by omega) hs (by show t.toArray.size ≤ 1000; simp; omega)
  rw [Int.toNat_natCast] at h
  exact h

end Go.Proofs.YtpggfkdfchafhaaDoor
