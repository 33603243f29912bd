/-
  Layout: the contract of the law's gap; cells of the list of gaps.
-/
import Derived.Test.YtdiogcedlppioaaGreatDoorLyb
import Derived.Test.YtdiogcedlppioaaGreatDoorLwu
set_option linter.unusedVariables false
set_option linter.unusedSimpArgs false
namespace Go.Proofs.YtdiogcedlppioaaGreatDoor
open Go.RowKit
open Px (St T D Res)

set_option maxRecDepth 100000 in
set_option maxHeartbeats 1000000 in
theorem gap2_any (c : Nat) (w : World) (hc : c ≤ 255) :
    Calls Tryz.prog 27 #[.int .u8 c] w fun e w' => e = .returned (.string ⟨(Lx.gapP (c % 5)).toArray⟩) ∧ Below w.heap.size w w' := by
  obtain ⟨m, hm⟩ : ∃ m, m = c % 5 := ⟨_, rfl⟩
  rw [← hm]
  have hmod : ((c : Int) % 5) = (m : Int) := by rw [hm]; exact (Int.natCast_emod c 5).symm
  have hm6 : m < 5 := by omega
  clear hm
  rcases (show m = 0 ∨ m = 1 ∨ m = 2 ∨ m = 3 ∨ m = 4 from by omega) with rfl | rfl | rfl | rfl | rfl
  all_goals
    go_enter Tryz.func27, Tryz.ntmps27
    go_wp2
    go_ret
    exact ⟨rfl, (Below.refl _ _).alloc (Nat.le_refl _) _⟩

theorem block_of_add (a : Addr) (n : Nat) : (a.add n).block = a.block := by unfold Addr.add; split <;> rfl
/-- how long the new text may be after some tokens -/
structure LayLen (k n : Nat) : Prop where
  le : n ≤ k * 4013
theorem LayLen.next {k n g t : Nat} (h : LayLen k n) (hg : g ≤ 13) (ht : t ≤ 4000) : LayLen (k + 1) (n + g + t) := ⟨by have := h.le; omega⟩
theorem LayLen.max {k n : Nat} (h : LayLen k n) (hk : k ≤ 1500) : n ≤ 6100000 := by have := h.le; omega
theorem info_int : (Tryz.prog.info? 3).map (fun i => (i.zero, i.size, i.bytes)) = some (some (.int .i64 0), 1, 8) := by kernel_rfl
/-- the offsets that the law has kept -/
def offsV (at_ : Nat → Nat) (k : Nat) : List Value := (List.range k).map fun m => .int .i64 (at_ m : Int)
theorem offsV_next (at_ : Nat → Nat) (k : Nat) : offsV at_ (k + 1) = offsV at_ k ++ [.int .i64 (at_ k : Int)] := by
  unfold offsV
  rw [List.range_succ, List.map_append]
  rfl
theorem offsV_at {at_ : Nat → Nat} {k m : Nat} (h : m < k) : (offsV at_ k)[m]? = some (.int .i64 (at_ m : Int)) := by
  unfold offsV
  rw [List.getElem?_map, List.getElem?_range h]
  rfl
theorem offs_cell {w : World} {B n cap m : Nat} {a : Option Addr} {at_ : Nat → Nat} (h : w.ownsRow B 3 1 (.slice a n cap) n (offsV at_ n)) (hm : m < n) :
    ∃ g, a = some ⟨g, 0, none⟩ ∧ g < w.heap.size ∧ w.cell? ⟨g, m, none⟩ = some (.int .i64 (at_ m : Int)) := by
  rcases h.2 with ⟨_, h0⟩ | ⟨g, cap', cur, hv, _, hg, _⟩
  · omega
  · cases hv
    exact ⟨g, rfl, (Array.getElem?_eq_some_iff.1 hg).1, by rw [h.cellAt m (by omega)]; exact offsV_at hm⟩
theorem ba_app (a b : List UInt8) : (⟨a.toArray⟩ : ByteArray) ++ ⟨b.toArray⟩ = ⟨(a ++ b).toArray⟩ := by
  apply ByteArray.ext
  simp
end Go.Proofs.YtdiogcedlppioaaGreatDoor
