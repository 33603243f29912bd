/-
  Merged texts of the base: Std Ste Stf Stg Sth Sti.
-/
import Derived.Test.YtbgpboiblggmiaaGreatDoorQBaseC
import Derived.Deep.RegionLaw
import Derived.Deep.DeepCutAuto

set_option linter.unusedVariables false
set_option linter.unusedSimpArgs false
/-
  Walks over blocks and the statements that hold them.
-/
namespace Go.Proofs.YtbgpboiblggmiaaGreatDoor
open Go.RowKit
open Px (St T D Res left Takes)

theorem HasN.setCell {w : World} {b : Nat} (h : HasN w b) (p : Addr) (v : Value) : HasN (w.setCell p v) b := by
  obtain ⟨cs, h9, h⟩ := h
  by_cases e : b = p.block
  · subst e
    refine ⟨if p.spot.isSome then cs else cs.setIfInBounds p.off v, ?_, ?_⟩
    · split
      · exact h9
      · simpa using h9
    · unfold Var
      simp only [World.setCell, Array.getElem?_modify]
      rw [h]
      simp
  · exact ⟨cs, h9, obj_cell_other h e v⟩

set_option maxRecDepth 100000 in
set_option maxHeartbeats 2000000 in
theorem block_rd {B E g N : Nat} {w : World} {s : St} (h : RdAt B E g w s) (rd : St → Res T) (hm : Takes rd)
    (hF : ∀ w' s', RdAt B E g w' s' → left s' ≤ N → Calls Tryz.prog 167 #[.pointer (some ⟨g, 0, none⟩)] w' (Says B E g w' (encT w'.heap.size) (rd s'))) (hN : left s ≤ N + 1) :
    Calls Tryz.prog 155 #[.pointer (some ⟨g, 0, none⟩)] w (Says B E g w (encT w.heap.size) (Px.block E rd s)) := by
  have hF2 := tokF2
  have Hm := Lib.hid hm
  have HF := Lib.hid hF
  have HN := Lib.hid hN
  clear hm hF hN
  have hmf : ∀ (fn : Fn) (first cap : Array Value) (w : World), (Instr.makeFunc fn first cap).run Tryz.prog w = .ok (.func fn first cap) w := fun _ _ _ _ => rfl
  have hlt := h.lt
  have hB := h.le
  have HR := Lib.hid h
  have HS := Lib.hid (Stays.refl B none w)
  clear h
  obtain ⟨R, hR⟩ : ∃ R, R = Px.block E rd s := ⟨_, rfl⟩
  rw [← hR]
  unfold Px.block Px.offOf at hR
  have HX := Lib.hid hR
  clear hR
  go_enter Tryz.func155, Tryz.ntmps155
  go_wp2_with fail
  refine (peek_any (HR.out.locals (by (exact Locals.au)))).mono ?_
  rintro e1 w1 ⟨rfl, hb1⟩
  unfold tokVal
  have hS1 := (Stays.refl B none _).below hb1 (Nat.le_refl _)
  have HR := Lib.hid (RdAt.of_below (HR.out.locals (by (exact Locals.au))) hb1 (Nat.le_refl _))
  have HS := Lib.hid (Stays.trans (a := w) (by (exact Stays.au)) hS1)
  have hs1 := hS1.size
  (try simp at hs1)
  clear hb1
  have z0 : Var 25 w1 w.heap.size _ := Var.stays (by (exact Var.au)) hS1
  have z0l := z0.lt
  obtain ⟨z0c, z0f⟩ := obj_facts z0
  go_wp2_with fail
  refine (list_rd (HR.out.locals (by (exact Locals.au))) 167 (fun _ _ => by simp [go_sem]) rd Hm.out HF.out HN.out).mono ?_
  intro e2 w2 hm2
  refine hm2.cases ?_ ?_
  rotate_left
  focus (intro db sb hrb heb hRb hSb; subst heb; go_wp2_with fail; ((try simp only [Exit.inBlock, Exit.then]); refine post_panic rfl ?_); exact Says.bad (HX.out.trans (Res.bind_of_bad hrb _)) (Stays.trans (a := w) (by (exact Stays.au)) hSb) hRb)
  intro a2 s2 v2 hr2 he2 hv2 hR2 hS2
  subst he2
  have HX := Lib.hid (HX.out.trans (Res.bind_of_ok hr2 _))
  have HR := Lib.hid hR2
  have HS := Lib.hid (Stays.trans (a := w) (by (exact Stays.au)) hS2)
  have Hr2 := Lib.hid hr2
  have hs2 := hS2.size
  (try simp at hs2)
  clear hm2 hr2 hR2
  obtain ⟨p2, c2, rfl, hw2⟩ := hv2
  have Hw2 := Lib.hid hw2.row.lt
  clear hw2
  have z0' : Var 25 w2 w.heap.size _ := Var.stays (by (exact Var.au)) hS2
  clear z0 z0c z0f
  have z0 := z0'
  clear z0'
  have z0l := z0.lt
  obtain ⟨z0c, z0f⟩ := obj_facts z0
  have z1 : Var 25 w2 w1.heap.size _ := Var.stays (by (exact Var.au)) hS2
  have z1l := z1.lt
  obtain ⟨z1c, z1f⟩ := obj_facts z1
  go_wp2_with fail
  rw [storeF z1]
  (rw [storeN]; rotate_left; (exact HasN.au))
  ((try simp only [Exit.inBlock, Exit.then]); refine ret_node (by rfl) (by rfl) (by (exact Var.au)) (by first | rfl | simp) (by rfl) ?_)
  refine Says.ok HX.out (by (exact Stays.au)) ⟨_, _, rfl, (show Row _ _ a2 (.slice p2 a2.length c2) from Row.mono (by (have QQ := Hw2; exact Row.au)) ?_)⟩ (HR.out.locals ?_)
  · intro b hb; (try simp at hb); omega
  · (exact Locals.au)

set_option maxRecDepth 100000 in
set_option maxHeartbeats 600000 in
theorem branch_rd {B E g N : Nat} {w : World} {s : St} (h : RdAt B E g w s) (rd : St → Res T) (hm : Takes rd)
    (hF : ∀ w' s', RdAt B E g w' s' → left s' ≤ N → Calls Tryz.prog 167 #[.pointer (some ⟨g, 0, none⟩)] w' (Says B E g w' (encT w'.heap.size) (rd s'))) (hN : left s ≤ N + 1) {t : Lx.Tok} {r : List Lx.Tok} (ht : s.toks = t :: r) :
    Calls Tryz.prog 179 #[.pointer (some ⟨g, 0, none⟩)] w (Says B E g w (encT w.heap.size) (Px.branch E rd s)) := by
  have Ht := Lib.hid ht
  have Hm := Lib.hid hm
  have HF := Lib.hid hF
  have HN := Lib.hid hN
  clear hm hF hN ht
  have hlt := h.lt
  have hB := h.le
  have HR := Lib.hid h
  have HS := Lib.hid (Stays.refl B none w)
  clear h
  obtain ⟨R, hR⟩ : ∃ R, R = Px.branch E rd s := ⟨_, rfl⟩
  rw [← hR]
  unfold Px.branch at hR
  have HX := Lib.hid hR
  clear hR
  go_enter Tryz.func179, Tryz.ntmps179
  go_wp2_with fail
  refine (begin_rd (HR.out.locals (by (exact Locals.au))) 31 Ht.out).mono ?_
  rintro e1 w1 ⟨rfl, hS1, hR1⟩
  unfold nodeVal
  have HR := Lib.hid hR1
  have HS := Lib.hid (Stays.trans (a := w) (by (exact Stays.au)) hS1)
  have hs1 := hS1.size
  (try simp at hs1)
  clear hR1
  have z0 : Var 25 w1 w.heap.size _ := Var.stays (by (exact Var.au)) hS1
  have z0l := z0.lt
  obtain ⟨z0c, z0f⟩ := obj_facts z0
  go_wp2_with fail
  refine (expr_any (HR.out.locals (by (exact Locals.au)))).mono ?_
  intro e2 w2 hm2
  refine hm2.cases ?_ ?_
  rotate_left
  focus (intro db sb hrb heb hRb hSb; subst heb; go_wp2_with fail; ((try simp only [Exit.inBlock, Exit.then]); refine post_panic rfl ?_); exact Says.bad (HX.out.trans (Res.bind_of_bad hrb _)) (Stays.trans (a := w) (by (exact Stays.au)) hSb) hRb)
  intro a2 s2 v2 hr2 he2 hv2 hR2 hS2
  subst he2
  have HX := Lib.hid (HX.out.trans (Res.bind_of_ok hr2 _))
  have HR := Lib.hid hR2
  have HS := Lib.hid (Stays.trans (a := w) (by (exact Stays.au)) hS2)
  have Hr2 := Lib.hid hr2
  have hs2 := hS2.size
  (try simp at hs2)
  clear hm2 hr2 hR2
  obtain ⟨p2, c2, rfl, hw2⟩ := hv2
  have Hw2 := Lib.hid hw2.lt
  clear hw2
  unfold nodeVal
  have hl2 := Lib.hid (Px.suf_left (Px.suf_expr _) Hr2.out)
  have hn2 : left s2 ≤ N + 1 := by have := hl2.out; have := cons_left Ht.out; have := HN.out; omega
  have z0' : Var 25 w2 w.heap.size _ := Var.stays (by (exact Var.au)) hS2
  clear z0 z0c z0f
  have z0 := z0'
  clear z0'
  have z0l := z0.lt
  obtain ⟨z0c, z0f⟩ := obj_facts z0
  have z1 : Var 25 w2 w1.heap.size _ := Var.stays (by (exact Var.au)) hS2
  have z1l := z1.lt
  obtain ⟨z1c, z1f⟩ := obj_facts z1
  go_wp2_with fail
  refine (block_rd (HR.out.locals (by (exact Locals.au))) rd Hm.out HF.out hn2).mono ?_
  intro e3 w3 hm3
  refine hm3.cases ?_ ?_
  rotate_left
  focus (intro db sb hrb heb hRb hSb; subst heb; go_wp2_with fail; ((try simp only [Exit.inBlock, Exit.then]); refine post_panic rfl ?_); exact Says.bad (HX.out.trans (Res.bind_of_bad hrb _)) (Stays.trans (a := w) (by (exact Stays.au)) hSb) hRb)
  intro a3 s3 v3 hr3 he3 hv3 hR3 hS3
  subst he3
  have HX := Lib.hid (HX.out.trans (Res.bind_of_ok hr3 _))
  have HR := Lib.hid hR3
  have HS := Lib.hid (Stays.trans (a := w) (by (exact Stays.au)) hS3)
  have Hr3 := Lib.hid hr3
  have hs3 := hS3.size
  (try simp at hs3)
  clear hm3 hr3 hR3
  obtain ⟨p3, c3, rfl, hw3⟩ := hv3
  have Hw3 := Lib.hid hw3.lt
  clear hw3
  unfold nodeVal
  have hl3 := Lib.hid (Px.suf_left (Px.suf_block Hm.out _) Hr3.out)
  have z0' : Var 25 w3 w.heap.size _ := Var.stays (by (exact Var.au)) hS3
  clear z0 z0c z0f
  have z0 := z0'
  clear z0'
  have z0l := z0.lt
  obtain ⟨z0c, z0f⟩ := obj_facts z0
  have z1' : Var 25 w3 w1.heap.size _ := Var.stays (by (exact Var.au)) hS3
  clear z1 z1c z1f
  have z1 := z1'
  clear z1'
  have z1l := z1.lt
  obtain ⟨z1c, z1f⟩ := obj_facts z1
  have z2 : Var 25 w3 w2.heap.size _ := Var.stays (by (exact Var.au)) hS3
  have z2l := z2.lt
  obtain ⟨z2c, z2f⟩ := obj_facts z2
  have Hw2 := Lib.hid (Row.stays (by (have QQ := Hw2; exact Row.au)) hS3)
  go_wp2_with fail
  refine (accept_any (HR.out.locals (by (exact Locals.au))) [101, 108, 115, 101] (by decide)).mono ?_
  rintro e4 w4 ⟨rfl, hS4, hR4⟩
  have HR := Lib.hid hR4
  have HS := Lib.hid (Stays.trans (a := w) (by (exact Stays.au)) hS4)
  have hs4 := hS4.size
  (try simp at hs4)
  clear hR4
  have z0' : Var 25 w4 w.heap.size _ := Var.stays (by (exact Var.au)) hS4
  clear z0 z0c z0f
  have z0 := z0'
  clear z0'
  have z0l := z0.lt
  obtain ⟨z0c, z0f⟩ := obj_facts z0
  have z1' : Var 25 w4 w1.heap.size _ := Var.stays (by (exact Var.au)) hS4
  clear z1 z1c z1f
  have z1 := z1'
  clear z1'
  have z1l := z1.lt
  obtain ⟨z1c, z1f⟩ := obj_facts z1
  have z2' : Var 25 w4 w2.heap.size _ := Var.stays (by (exact Var.au)) hS4
  clear z2 z2c z2f
  have z2 := z2'
  clear z2'
  have z2l := z2.lt
  obtain ⟨z2c, z2f⟩ := obj_facts z2
  have z3 : Var 25 w4 w3.heap.size _ := Var.stays (by (exact Var.au)) hS4
  have z3l := z3.lt
  obtain ⟨z3c, z3f⟩ := obj_facts z3
  have z4 : Var 25 w4 (w3.heap.size + 1) _ := Var.stays (Var.new' (by simp)) hS4
  have z4l := z4.lt
  obtain ⟨z4c, z4f⟩ := obj_facts z4
  have Hw2 := Lib.hid (Row.stays (by (have QQ := Hw2; exact Row.au)) hS4)
  have Hw3 := Lib.hid (Row.stays (by (have QQ := Hw3; exact Row.au)) hS4)
  cases hac : Px.accepts E [101, 108, 115, 101] s3
  · have HR := Lib.hid (show RdAt B E g w4 s3 by have := HR.out; unfold Px.accepted at this; rw [if_neg (by rw [hac]; decide)] at this; exact this)
    have HX := Lib.hid (HX.out.trans (congrArg (fun r => Res.bind r _) (if_neg (by rw [hac]; decide))))
    have HX := Lib.hid (show R = .ok (T.of 31 (Px.offOf E s) [a2, a3, T.of 34 (Px.offOf E s) []]) s3 from HX.out)
    clear hac
    go_wp2_with fail
    rw [storeF z1]
    (rw [storeN]; rotate_left; (exact HasN.au))
    ((try simp only [Exit.inBlock, Exit.then]); refine ret_node (by rfl) (by rfl) (by (exact Var.au)) (by first | rfl | simp) (by rfl) ?_)
    refine Says.ok HX.out (by (exact Stays.au)) ⟨_, _, rfl, (show Row _ _ [a2, a3, T.of 34 (Px.offOf E s) []] (.slice (some ⟨w4.heap.size, 0, none⟩) 3 3) from Row.mono (row_new' (S := fun b => w.heap.size < b ∧ b < w4.heap.size ∧ b ≠ w1.heap.size) (l := [a2, a3, T.of 34 (Px.offOf E s) []]) (b := w4.heap.size) (nodes_cons (Row.mono (by (have QQ := Hw2; exact Row.au)) (by intro b hb; (try simp at hb); (try simp); omega)) (nodes_cons (Row.mono (by (have QQ := Hw3; exact Row.au)) (by intro b hb; (try simp at hb); (try simp); omega)) (nodes_one (t := T.of 34 (Px.offOf E s) []) (kv := .slice none 0 0) (Row.nil _ _)))) (by simp [maxLen]) (by simp) rfl) ?_)⟩ (HR.out.locals ?_)
    · intro b hb; (try simp at hb); omega
    · (exact Locals.au)
  · have HR := Lib.hid (show RdAt B E g w4 (Px.rest s3) by have := HR.out; unfold Px.accepted at this; rw [if_pos hac] at this; exact this)
    have HX := Lib.hid (HX.out.trans (congrArg (fun r => Res.bind r _) (if_pos hac)))
    have hl4 := Lib.hid (Px.acc_left hac (by decide))
    clear hac
    have hn4 : left (Px.rest s3) ≤ N + 1 := by have := hl4.out; have := hl3.out; omega
    go_wp2_with fail
    refine (block_rd (HR.out.locals (by (exact Locals.au))) rd Hm.out HF.out hn4).mono ?_
    intro e5 w5 hm5
    refine hm5.cases ?_ ?_
    rotate_left
    focus (intro db sb hrb heb hRb hSb; subst heb; go_wp2_with fail; ((try simp only [Exit.inBlock, Exit.then]); refine post_panic rfl ?_); exact Says.bad (HX.out.trans (Res.bind_of_bad hrb _)) (Stays.trans (a := w) (by (exact Stays.au)) hSb) hRb)
    intro a5 s5 v5 hr5 he5 hv5 hR5 hS5
    subst he5
    have HX := Lib.hid (HX.out.trans (Res.bind_of_ok hr5 _))
    have HR := Lib.hid hR5
    have HS := Lib.hid (Stays.trans (a := w) (by (exact Stays.au)) hS5)
    have Hr5 := Lib.hid hr5
    have hs5 := hS5.size
    (try simp at hs5)
    clear hm5 hr5 hR5
    obtain ⟨p5, c5, rfl, hw5⟩ := hv5
    have Hw5 := Lib.hid hw5.lt
    clear hw5
    unfold nodeVal
    have z0' : Var 25 w5 w.heap.size _ := Var.stays (by (exact Var.au)) hS5
    clear z0 z0c z0f
    have z0 := z0'
    clear z0'
    have z0l := z0.lt
    obtain ⟨z0c, z0f⟩ := obj_facts z0
    have z1' : Var 25 w5 w1.heap.size _ := Var.stays (by (exact Var.au)) hS5
    clear z1 z1c z1f
    have z1 := z1'
    clear z1'
    have z1l := z1.lt
    obtain ⟨z1c, z1f⟩ := obj_facts z1
    have z2' : Var 25 w5 w2.heap.size _ := Var.stays (by (exact Var.au)) hS5
    clear z2 z2c z2f
    have z2 := z2'
    clear z2'
    have z2l := z2.lt
    obtain ⟨z2c, z2f⟩ := obj_facts z2
    have z3' : Var 25 w5 w3.heap.size _ := Var.stays (by (exact Var.au)) hS5
    clear z3 z3c z3f
    have z3 := z3'
    clear z3'
    have z3l := z3.lt
    obtain ⟨z3c, z3f⟩ := obj_facts z3
    have z4' : Var 25 w5 (w3.heap.size + 1) _ := Var.stays (by (exact Var.au)) hS5
    clear z4 z4c z4f
    have z4 := z4'
    clear z4'
    have z4l := z4.lt
    obtain ⟨z4c, z4f⟩ := obj_facts z4
    have Hw2 := Lib.hid (Row.stays (by (have QQ := Hw2; exact Row.au)) hS5)
    have Hw3 := Lib.hid (Row.stays (by (have QQ := Hw3; exact Row.au)) hS5)
    go_wp2_with fail
    rw [store9 z4 (by rfl)]
    rw [storeF (z1.row_other (g := w3.heap.size + 1) (by omega) _)]
    (rw [storeN]; rotate_left; (exact HasN.au))
    ((try simp only [Exit.inBlock, Exit.then]); refine ret_node (by rfl) (by rfl) (by (exact Var.au)) (by first | rfl | simp) (by rfl) ?_)
    refine Says.ok HX.out (by (exact Stays.au)) ⟨_, _, rfl, (show Row _ _ [a2, a3, a5] (.slice (some ⟨w5.heap.size, 0, none⟩) 3 3) from Row.mono (row_new' (S := fun b => w.heap.size < b ∧ b < w5.heap.size ∧ b ≠ w1.heap.size ∧ b ≠ w3.heap.size + 1) (l := [a2, a3, a5]) (b := w5.heap.size) (nodes_cons (Row.mono (by (have QQ := Hw2; exact Row.au)) (by intro b hb; (try simp at hb); (try simp); omega)) (nodes_cons (Row.mono (by (have QQ := Hw3; exact Row.au)) (by intro b hb; (try simp at hb); (try simp); omega)) (nodes_one (Row.mono (by (have QQ := Hw5; exact Row.au)) (by intro b hb; (try simp at hb); (try simp); omega))))) (by simp [maxLen]) (by simp) rfl) ?_)⟩ (HR.out.locals ?_)
    · intro b hb; (try simp at hb); omega
    · (exact Locals.au)
end Go.Proofs.YtbgpboiblggmiaaGreatDoor

/-
  Walks over assignment.
-/
namespace Go.Proofs.YtbgpboiblggmiaaGreatDoor
open Go.RowKit
open Px (St T D Res left Takes)

theorem Var.staysO {B : Nat} {x : Option Nat} {w w' : World} {b : Nat} {cs : Array Value} (h : Var 25 w b cs) (k : Stays B x w w') (hb : x ≠ some b) : Var 25 w' b cs := k.block _ _ h (.inr rfl) (Ne.symm hb)
theorem Row.own {S : Nat → Prop} {w : World} {l : List T} {kv : Value} (h : Row S w l kv) : ∀ b, kv.ownBlock = some b → S b := h.elim fun _ h => h.2.1

set_option maxRecDepth 100000 in
set_option maxHeartbeats 300000 in
theorem assignment_rd {B E g : Nat} {w : World} {s : St} (h : RdAt B E g w s) :
    Calls Tryz.prog 183 #[.pointer (some ⟨g, 0, none⟩)] w (Says B E g w (encT w.heap.size) (Px.assignment E s)) := by
  have hF := tokF2
  have hlt := h.lt
  have hB := h.le
  have HR := Lib.hid h
  have HS := Lib.hid (Stays.refl B none w)
  clear h
  obtain ⟨R, hR⟩ : ∃ R, R = Px.assignment E s := ⟨_, rfl⟩
  rw [← hR]
  unfold Px.assignment Px.offOf at hR
  have HX := Lib.hid hR
  clear hR
  go_enter Tryz.func183, Tryz.ntmps183
  go_wp2_with fail
  refine (peek_any (HR.out.locals (by (exact Locals.au)))).mono ?_
  rintro e1 w1 ⟨rfl, hb1⟩
  unfold tokVal
  have hS1 := (Stays.refl B none _).below hb1 (Nat.le_refl _)
  have HR := Lib.hid (RdAt.of_below (HR.out.locals (by (exact Locals.au))) hb1 (Nat.le_refl _))
  have HS := Lib.hid (Stays.trans (a := w) (by (exact Stays.au)) hS1)
  have hs1 := hS1.size
  (try simp at hs1)
  clear hb1
  have z0 : Var 25 w1 w.heap.size _ := Var.stays (by (exact Var.au)) hS1
  have z0l := z0.lt
  obtain ⟨z0c, z0f⟩ := obj_facts z0
  go_wp2_with fail
  refine (accept_any (HR.out.locals (by (exact Locals.au))) [114, 101, 108, 101, 97, 115, 101] (by decide)).mono ?_
  rintro e2 w2 ⟨rfl, hS2, hR2⟩
  have HR := Lib.hid hR2
  have HS := Lib.hid (Stays.trans (a := w) (by (exact Stays.au)) hS2)
  have hs2 := hS2.size
  (try simp at hs2)
  clear hR2
  have z0' : Var 25 w2 w.heap.size _ := Var.stays (by (exact Var.au)) hS2
  clear z0 z0c z0f
  have z0 := z0'
  clear z0'
  have z0l := z0.lt
  obtain ⟨z0c, z0f⟩ := obj_facts z0
  have z1 : Var 25 w2 w1.heap.size _ := Var.stays (by (exact Var.au)) hS2
  have z1l := z1.lt
  obtain ⟨z1c, z1f⟩ := obj_facts z1
  cases hac : Px.accepts E [114, 101, 108, 101, 97, 115, 101] s
  · have hx := HX.out
    rw [hac] at hx
    have HX := Lib.hid (show R = (Px.assign E [] (Px.accepted E [114, 101, 108, 101, 97, 115, 101] s)).bind fun l s1 => (Px.withs E l s1).bind fun l s2 => (Px.expect E [59] s2).bind fun _ s3 => .ok (T.mk 21 [] [] 0 0 0 false l (Px.peek E s).off) s3 from hx)
    clear hac hx
    go_wp2_with fail
    refine (assign_rd (HR.out.locals (by (exact Locals.au))) (lo := w2.heap.size) (l := []) (a := none) (cap := 0) (RowX.nil _ _) (by omega) (by simp) (by simp)).mono ?_
    intro e3 w3 hm3
    refine hm3.cases ?_ ?_
    rotate_left
    focus (intro db sb hrb heb hRb hSb; subst heb; go_wp2_with fail; ((try simp only [Exit.inBlock, Exit.then]); refine post_panic rfl ?_); exact Says.bad (HX.out.trans (Res.bind_of_bad hrb _)) (Stays.trans (x := none) (a := w) (by (exact Stays.au)) hSb) hRb)
    intro l3 s3 a3 c3 hr3 he3 hw3 hx3 hR3 hS3
    subst he3
    have hS3 := (show Stays B none _ w3 from hS3)
    have HX := Lib.hid (HX.out.trans (Res.bind_of_ok hr3 _))
    have HR := Lib.hid hR3
    have HS := Lib.hid (Stays.trans (x := none) (a := w) (by (exact Stays.au)) hS3)
    have hll : l3.length ≤ 4000 := by have h := (assign_len hr3).1; rw [h]; simp
    have hs3 := hS3.size
    (try simp at hs3)
    have Hw3 := Lib.hid hw3
    clear hm3 hr3 hR3 hw3
    have z0' : Var 25 w3 w.heap.size _ := Var.stays (by (exact Var.au)) hS3
    have z1' : Var 25 w3 w1.heap.size _ := Var.stays (by (exact Var.au)) hS3
    go_wp2_with fail
    have hA3 : g < w2.heap.size := by omega
    have hB3 : w2.heap.size ≤ w3.heap.size := by omega
    refine (with_rd (lo := w2.heap.size) HR.out Hw3.out hA3 hB3 hll).mono ?_
    intro e4 w4 hm4
    have hrow4 := Hw3.out.row.lt
    refine hm4.cases ?_ ?_
    rotate_left
    focus (intro db sb hrb heb hRb hSb; subst heb; go_wp2_with fail; ((try simp only [Exit.inBlock, Exit.then]); refine post_panic rfl ?_); exact Says.bad (HX.out.trans (Res.bind_of_bad hrb _)) (Stays.trans_new (x := none) (a := w) (by (exact Stays.au)) hSb (fun i hi => by have := hrow4.own i hi; omega)) hRb)
    intro l4 s4 a4 c4 hr4 he4 hw4 hx4 hR4 hS4
    subst he4
    have HX := Lib.hid (HX.out.trans (Res.bind_of_ok hr4 _))
    have HR := Lib.hid hR4
    have HS := Lib.hid (Stays.trans_new (x := none) (a := w) (by (exact Stays.au)) hS4 (fun i hi => by have := hrow4.own i hi; omega))
    have hs4 := hS4.size
    (try simp at hs4)
    have hne4 : ∀ b, b < w2.heap.size → (Value.slice a3 l3.length c3).ownBlock ≠ some b := fun b hb e => by have := hrow4.own b e; omega
    have Hw4 := Lib.hid hw4
    clear hm4 hr4 hR4 hw4 hrow4
    clear z0 z0c z0f z1 z1c z1f
    have z0 := Var.staysO z0' hS4 (hne4 _ (by omega))
    have z1 := Var.staysO z1' hS4 (hne4 _ (by omega))
    clear z0' z1'
    have z0l := z0.lt
    have z1l := z1.lt
    obtain ⟨z0c, z0f⟩ := obj_facts z0
    obtain ⟨z1c, z1f⟩ := obj_facts z1
    have Hw5 := Lib.hid Hw4.out.row.lt
    go_wp2_with fail
    rw [storeF z1]
    go_wp2_with fail
    refine (expect_any (HR.out.locals (by (exact Locals.au))) [59] (by decide)).mono ?_
    intro e6 w6 hm6
    refine hm6.cases ?_ ?_
    rotate_left
    focus (intro db sb hrb heb hRb hSb; subst heb; go_wp2_with fail; ((try simp only [Exit.inBlock, Exit.then]); refine post_panic rfl ?_); exact Says.bad (HX.out.trans (Res.bind_of_bad hrb _)) (Stays.trans (a := w) (by (exact Stays.au)) hSb) hRb)
    intro a6 s6 v6 hr6 he6 hv6 hR6 hS6
    subst he6
    have HX := Lib.hid (HX.out.trans (Res.bind_of_ok hr6 _))
    have HR := Lib.hid hR6
    have HS := Lib.hid (Stays.trans (a := w) (by (exact Stays.au)) hS6)
    have Hr6 := Lib.hid hr6
    have hs6 := hS6.size
    (try simp at hs6)
    clear hm6 hr6 hR6
    obtain rfl := hv6
    have z0' : Var 25 w6 w.heap.size _ := Var.stays (by (exact Var.au)) hS6
    clear z0 z0c z0f
    have z0 := z0'
    clear z0'
    have z0l := z0.lt
    obtain ⟨z0c, z0f⟩ := obj_facts z0
    have z1' : Var 25 w6 w1.heap.size _ := Var.stays (by (exact Var.au)) hS6
    clear z1 z1c z1f
    have z1 := z1'
    clear z1'
    have z1l := z1.lt
    obtain ⟨z1c, z1f⟩ := obj_facts z1
    have Hw5 := Lib.hid (Row.stays (by (have QQ := Hw5; exact Row.au)) hS6)
    go_wp2_with fail
    (rw [storeN]; rotate_left; (exact HasN.au))
    ((try simp only [Exit.inBlock, Exit.then]); refine ret_node (by rfl) (by rfl) (by (exact Var.au)) (by first | rfl | simp) (by rfl) ?_)
    refine Says.ok HX.out (by (exact Stays.au)) ⟨_, _, rfl, (show Row _ _ l4 (.slice a4 l4.length c4) from Row.mono (by (have QQ := Hw5; exact Row.au)) ?_)⟩ (HR.out.locals ?_)
    · intro b hb; (try simp at hb); omega
    · (exact Locals.au)
  · have hx := HX.out
    rw [hac] at hx
    have HX := Lib.hid (show R = (Px.assign E [] (Px.accepted E [114, 101, 108, 101, 97, 115, 101] s)).bind fun l s1 => (Px.withs E l s1).bind fun l s2 => (Px.expect E [59] s2).bind fun _ s3 => .ok (T.mk 21 [] [] 1 0 0 false l (Px.peek E s).off) s3 from hx)
    clear hac hx
    go_wp2_with fail
    rw [storeF z1]
    refine (assign_rd (HR.out.locals (by (exact Locals.au))) (lo := w2.heap.size) (l := []) (a := none) (cap := 0) (RowX.nil _ _) (by omega) (by simp) (by simp)).mono ?_
    intro e3 w3 hm3
    refine hm3.cases ?_ ?_
    rotate_left
    focus (intro db sb hrb heb hRb hSb; subst heb; go_wp2_with fail; ((try simp only [Exit.inBlock, Exit.then]); refine post_panic rfl ?_); exact Says.bad (HX.out.trans (Res.bind_of_bad hrb _)) (Stays.trans (x := none) (a := w) (by (exact Stays.au)) hSb) hRb)
    intro l3 s3 a3 c3 hr3 he3 hw3 hx3 hR3 hS3
    subst he3
    have hS3 := (show Stays B none _ w3 from hS3)
    have HX := Lib.hid (HX.out.trans (Res.bind_of_ok hr3 _))
    have HR := Lib.hid hR3
    have HS := Lib.hid (Stays.trans (x := none) (a := w) (by (exact Stays.au)) hS3)
    have hll : l3.length ≤ 4000 := by have h := (assign_len hr3).1; rw [h]; simp
    have hs3 := hS3.size
    (try simp at hs3)
    have Hw3 := Lib.hid hw3
    clear hm3 hr3 hR3 hw3
    have z0' : Var 25 w3 w.heap.size _ := Var.stays (by (exact Var.au)) hS3
    have z1' : Var 25 w3 w1.heap.size _ := Var.stays (by (exact Var.au)) hS3
    go_wp2_with fail
    have hA3 : g < w2.heap.size := by omega
    have hB3 : w2.heap.size ≤ w3.heap.size := by omega
    refine (with_rd (lo := w2.heap.size) HR.out Hw3.out hA3 hB3 hll).mono ?_
    intro e4 w4 hm4
    have hrow4 := Hw3.out.row.lt
    refine hm4.cases ?_ ?_
    rotate_left
    focus (intro db sb hrb heb hRb hSb; subst heb; go_wp2_with fail; ((try simp only [Exit.inBlock, Exit.then]); refine post_panic rfl ?_); exact Says.bad (HX.out.trans (Res.bind_of_bad hrb _)) (Stays.trans_new (x := none) (a := w) (by (exact Stays.au)) hSb (fun i hi => by have := hrow4.own i hi; omega)) hRb)
    intro l4 s4 a4 c4 hr4 he4 hw4 hx4 hR4 hS4
    subst he4
    have HX := Lib.hid (HX.out.trans (Res.bind_of_ok hr4 _))
    have HR := Lib.hid hR4
    have HS := Lib.hid (Stays.trans_new (x := none) (a := w) (by (exact Stays.au)) hS4 (fun i hi => by have := hrow4.own i hi; omega))
    have hs4 := hS4.size
    (try simp at hs4)
    have hne4 : ∀ b, b < w2.heap.size → (Value.slice a3 l3.length c3).ownBlock ≠ some b := fun b hb e => by have := hrow4.own b e; omega
    have Hw4 := Lib.hid hw4
    clear hm4 hr4 hR4 hw4 hrow4
    clear z0 z0c z0f z1 z1c z1f
    have z0 := Var.staysO z0' hS4 (hne4 _ (by omega))
    have z1 := Var.staysO z1' hS4 (hne4 _ (by omega))
    clear z0' z1'
    have z0l := z0.lt
    have z1l := z1.lt
    obtain ⟨z0c, z0f⟩ := obj_facts z0
    obtain ⟨z1c, z1f⟩ := obj_facts z1
    have Hw5 := Lib.hid Hw4.out.row.lt
    go_wp2_with fail
    rw [storeF z1]
    go_wp2_with fail
    refine (expect_any (HR.out.locals (by (exact Locals.au))) [59] (by decide)).mono ?_
    intro e6 w6 hm6
    refine hm6.cases ?_ ?_
    rotate_left
    focus (intro db sb hrb heb hRb hSb; subst heb; go_wp2_with fail; ((try simp only [Exit.inBlock, Exit.then]); refine post_panic rfl ?_); exact Says.bad (HX.out.trans (Res.bind_of_bad hrb _)) (Stays.trans (a := w) (by (exact Stays.au)) hSb) hRb)
    intro a6 s6 v6 hr6 he6 hv6 hR6 hS6
    subst he6
    have HX := Lib.hid (HX.out.trans (Res.bind_of_ok hr6 _))
    have HR := Lib.hid hR6
    have HS := Lib.hid (Stays.trans (a := w) (by (exact Stays.au)) hS6)
    have Hr6 := Lib.hid hr6
    have hs6 := hS6.size
    (try simp at hs6)
    clear hm6 hr6 hR6
    obtain rfl := hv6
    have z0' : Var 25 w6 w.heap.size _ := Var.stays (by (exact Var.au)) hS6
    clear z0 z0c z0f
    have z0 := z0'
    clear z0'
    have z0l := z0.lt
    obtain ⟨z0c, z0f⟩ := obj_facts z0
    have z1' : Var 25 w6 w1.heap.size _ := Var.stays (by (exact Var.au)) hS6
    clear z1 z1c z1f
    have z1 := z1'
    clear z1'
    have z1l := z1.lt
    obtain ⟨z1c, z1f⟩ := obj_facts z1
    have Hw5 := Lib.hid (Row.stays (by (have QQ := Hw5; exact Row.au)) hS6)
    go_wp2_with fail
    (rw [storeN]; rotate_left; (exact HasN.au))
    ((try simp only [Exit.inBlock, Exit.then]); refine ret_node (by rfl) (by rfl) (by (exact Var.au)) (by first | rfl | simp) (by rfl) ?_)
    refine Says.ok HX.out (by (exact Stays.au)) ⟨_, _, rfl, (show Row _ _ l4 (.slice a4 l4.length c4) from Row.mono (by (have QQ := Hw5; exact Row.au)) ?_)⟩ (HR.out.locals ?_)
    · intro b hb; (try simp at hb); omega
    · (exact Locals.au)
end Go.Proofs.YtbgpboiblggmiaaGreatDoor

/-
  Walks over loop (while).
-/
namespace Go.Proofs.YtbgpboiblggmiaaGreatDoor
open Go.RowKit
open Px (St T D Res left Takes)

theorem Row.drew {S : Nat → Prop} {w : World} {l : List T} {kv : Value} (h : Row S w l kv) : Row S w.drew l kv := h.keep (fun _ h _ => h) (fun _ _ _ hb => hb)

set_option maxRecDepth 100000 in
set_option maxHeartbeats 600000 in
theorem loop_rd {B E g N : Nat} {w : World} {s : St} (h : RdAt B E g w s) (rd : St → Res T) (hm : Takes rd)
    (hF : ∀ w' s', RdAt B E g w' s' → left s' ≤ N → Calls Tryz.prog 167 #[.pointer (some ⟨g, 0, none⟩)] w' (Says B E g w' (encT w'.heap.size) (rd s'))) (hN : left s ≤ N + 1) {t : Lx.Tok} {r : List Lx.Tok} (ht : s.toks = t :: r) :
    Calls Tryz.prog 180 #[.pointer (some ⟨g, 0, none⟩)] w (Says B E g w (encT w.heap.size) (Px.loop E rd s)) := by
  have Ht := Lib.hid ht
  have Hm := Lib.hid hm
  have HF := Lib.hid hF
  have HN := Lib.hid hN
  clear hm hF hN ht
  have hlt := h.lt
  have hB := h.le
  have HR := Lib.hid h
  have HS := Lib.hid (Stays.refl B none w)
  clear h
  obtain ⟨R, hR⟩ : ∃ R, R = Px.loop E rd s := ⟨_, rfl⟩
  rw [← hR]
  unfold Px.loop at hR
  have HX := Lib.hid hR
  clear hR
  go_enter Tryz.func180, Tryz.ntmps180
  go_wp2_with fail
  refine (begin_rd (HR.out.locals (by (exact Locals.au))) 32 Ht.out).mono ?_
  rintro e1 w1 ⟨rfl, hS1, hR1⟩
  unfold nodeVal
  have HR := Lib.hid hR1
  have HS := Lib.hid (Stays.trans (a := w) (by (exact Stays.au)) hS1)
  have hs1 := hS1.size
  (try simp at hs1)
  clear hR1
  have z0 : Var 25 w1 w.heap.size _ := Var.stays (by (exact Var.au)) hS1
  have z0l := z0.lt
  obtain ⟨z0c, z0f⟩ := obj_facts z0
  go_wp2_with fail
  refine (expr_any (HR.out.locals (by (exact Locals.au)))).mono ?_
  intro e2 w2 hm2
  refine hm2.cases ?_ ?_
  rotate_left
  focus (intro db sb hrb heb hRb hSb; subst heb; go_wp2_with fail; ((try simp only [Exit.inBlock, Exit.then]); refine post_panic rfl ?_); exact Says.bad (HX.out.trans (Res.bind_of_bad hrb _)) (Stays.trans (a := w) (by (exact Stays.au)) hSb) hRb)
  intro a2 s2 v2 hr2 he2 hv2 hR2 hS2
  subst he2
  have HX := Lib.hid (HX.out.trans (Res.bind_of_ok hr2 _))
  have HR := Lib.hid hR2
  have HS := Lib.hid (Stays.trans (a := w) (by (exact Stays.au)) hS2)
  have Hr2 := Lib.hid hr2
  have hs2 := hS2.size
  (try simp at hs2)
  clear hm2 hr2 hR2
  obtain ⟨p2, c2, rfl, hw2⟩ := hv2
  have Hw2 := Lib.hid hw2.lt
  clear hw2
  unfold nodeVal
  have hl2 := Lib.hid (Px.suf_left (Px.suf_expr _) Hr2.out)
  have z0' : Var 25 w2 w.heap.size _ := Var.stays (by (exact Var.au)) hS2
  clear z0 z0c z0f
  have z0 := z0'
  clear z0'
  have z0l := z0.lt
  obtain ⟨z0c, z0f⟩ := obj_facts z0
  have z1 : Var 25 w2 w1.heap.size _ := Var.stays (by (exact Var.au)) hS2
  have z1l := z1.lt
  obtain ⟨z1c, z1f⟩ := obj_facts z1
  go_wp2_with fail
  refine (accept_any (HR.out.locals (by (exact Locals.au))) [118, 97, 114, 105, 97, 110, 116] (by decide)).mono ?_
  rintro e3 w3 ⟨rfl, hS3, hR3⟩
  have HR := Lib.hid hR3
  have HS := Lib.hid (Stays.trans (a := w) (by (exact Stays.au)) hS3)
  have hs3 := hS3.size
  (try simp at hs3)
  clear hR3
  have z0' : Var 25 w3 w.heap.size _ := Var.stays (by (exact Var.au)) hS3
  clear z0 z0c z0f
  have z0 := z0'
  clear z0'
  have z0l := z0.lt
  obtain ⟨z0c, z0f⟩ := obj_facts z0
  have z1' : Var 25 w3 w1.heap.size _ := Var.stays (by (exact Var.au)) hS3
  clear z1 z1c z1f
  have z1 := z1'
  clear z1'
  have z1l := z1.lt
  obtain ⟨z1c, z1f⟩ := obj_facts z1
  have z2 : Var 25 w3 w2.heap.size _ := Var.stays (by (exact Var.au)) hS3
  have z2l := z2.lt
  obtain ⟨z2c, z2f⟩ := obj_facts z2
  have z3 : Var 25 w3 (w2.heap.size + 1) _ := Var.stays (Var.new' (by simp)) hS3
  have z3l := z3.lt
  obtain ⟨z3c, z3f⟩ := obj_facts z3
  have Hw2 := Lib.hid (Row.stays (by (have QQ := Hw2; exact Row.au)) hS3)
  cases hac : Px.accepts E [118, 97, 114, 105, 97, 110, 116] s2
  · have HR := Lib.hid (show RdAt B E g w3 s2 by have := HR.out; unfold Px.accepted at this; rw [if_neg (by rw [hac]; decide)] at this; exact this)
    have HX := Lib.hid (HX.out.trans (congrArg (fun r => Res.bind r _) (if_neg (by rw [hac]; decide))))
    have HX := Lib.hid (show R = (Px.block E rd s2).bind fun b s3 => .ok (T.of 32 (Px.offOf E s) [a2, Px.none (Px.offOf E s), b]) s3 from HX.out)
    clear hac
    have hn3 : left s2 ≤ N + 1 := by have := hl2.out; have := cons_left Ht.out; have := HN.out; omega
    go_wp2_with fail
    go_region_law (go_simp; go_at_call 155; refine (block_rd (HR.out.locals (by (repeat (first | with_reducible exact HL.out | with_reducible refine Locals.alloc ?_ _ | with_reducible refine Locals.drew ?_ | (with_reducible refine Locals.setRowN ?_ ?_ ?_ _; rotate_left; (focus ((repeat (first | with_reducible exact HasV.new _ _ _ | with_reducible refine HasV.setRow ?_ _ _ | with_reducible refine HasV.alloc ?_ _ | with_reducible exact HasV.of (by assumption))); done)); (focus (first | with_reducible exact Nat.le_refl _ | with_reducible assumption | omega | (simp; omega)))) | with_reducible exact Locals.refl _ _)))) rd Hm.out HF.out hn3).mono ?_; intro e5 w5 hm5; refine hm5.cases ?_ ?_; rotate_left; (focus (intro db sb hrb heb hRb hSb; subst heb; refine post_panic rfl ?_; exact Says.bad (HX.out.trans (Res.bind_of_bad hrb _)) (Stays.trans (a := w) (by (repeat (first | with_reducible exact HS.out | with_reducible refine Stays.alloc ?_ _ | with_reducible refine Stays.drew ?_ | (with_reducible refine Stays.setRow ?_ ?_ _; rotate_left; (focus (first | with_reducible exact Nat.le_refl _ | with_reducible assumption | omega | (simp; omega)))) | with_reducible exact Stays.refl _ _ _))) hSb) hRb)); intro a5 s5 v5 hr5 he5 hv5 hR5 hS5; subst he5; have HX := Lib.hid (HX.out.trans (Res.bind_of_ok hr5 _)); have HR := Lib.hid hR5; have HS := Lib.hid (Stays.trans (a := w) (by (repeat (first | with_reducible exact HS.out | with_reducible refine Stays.alloc ?_ _ | with_reducible refine Stays.drew ?_ | (with_reducible refine Stays.setRow ?_ ?_ _; rotate_left; (focus (first | with_reducible exact Nat.le_refl _ | with_reducible assumption | omega | (simp; omega)))) | with_reducible exact Stays.refl _ _ _))) hS5); have Hr5 := Lib.hid hr5; have hs5 := hS5.size; (try simp at hs5); clear hm5 hr5 hR5; obtain ⟨p5, c5, rfl, hw5⟩ := hv5; have Hw5 := Lib.hid hw5.lt; clear hw5; unfold nodeVal; have z0' : Var 25 w5 w.heap.size _ := Var.stays (by (focus ((repeat (first | with_reducible assumption | with_reducible exact Var.new _ _ _ | (with_reducible refine Var.row_new ?_ _; (focus ((repeat (first | with_reducible exact HasV.new _ _ _ | with_reducible refine HasV.setRow ?_ _ _ | with_reducible refine HasV.alloc ?_ _ | with_reducible exact HasV.of (by assumption))); done))) | with_reducible apply Var.drew | with_reducible apply Var.row_other | with_reducible apply Var.alloc | omega | (simp; omega))); done))) hS5; clear z0 z0c z0f; have z0 := z0'; clear z0'; have z0l := z0.lt; obtain ⟨z0c, z0f⟩ := obj_facts z0; have z1' : Var 25 w5 w1.heap.size _ := Var.stays (by (focus ((repeat (first | with_reducible assumption | with_reducible exact Var.new _ _ _ | (with_reducible refine Var.row_new ?_ _; (focus ((repeat (first | with_reducible exact HasV.new _ _ _ | with_reducible refine HasV.setRow ?_ _ _ | with_reducible refine HasV.alloc ?_ _ | with_reducible exact HasV.of (by assumption))); done))) | with_reducible apply Var.drew | with_reducible apply Var.row_other | with_reducible apply Var.alloc | omega | (simp; omega))); done))) hS5; clear z1 z1c z1f; have z1 := z1'; clear z1'; have z1l := z1.lt; obtain ⟨z1c, z1f⟩ := obj_facts z1; have z2' : Var 25 w5 w2.heap.size _ := Var.stays (by (focus ((repeat (first | with_reducible assumption | with_reducible exact Var.new _ _ _ | (with_reducible refine Var.row_new ?_ _; (focus ((repeat (first | with_reducible exact HasV.new _ _ _ | with_reducible refine HasV.setRow ?_ _ _ | with_reducible refine HasV.alloc ?_ _ | with_reducible exact HasV.of (by assumption))); done))) | with_reducible apply Var.drew | with_reducible apply Var.row_other | with_reducible apply Var.alloc | omega | (simp; omega))); done))) hS5; clear z2 z2c z2f; have z2 := z2'; clear z2'; have z2l := z2.lt; obtain ⟨z2c, z2f⟩ := obj_facts z2; have z3' : Var 25 w5 (w2.heap.size + 1) _ := Var.stays (by (focus ((repeat (first | with_reducible assumption | with_reducible exact Var.new _ _ _ | (with_reducible refine Var.row_new ?_ _; (focus ((repeat (first | with_reducible exact HasV.new _ _ _ | with_reducible refine HasV.setRow ?_ _ _ | with_reducible refine HasV.alloc ?_ _ | with_reducible exact HasV.of (by assumption))); done))) | with_reducible apply Var.drew | with_reducible apply Var.row_other | with_reducible apply Var.alloc | omega | (simp; omega))); done))) hS5; clear z3 z3c z3f; have z3 := z3'; clear z3'; have z3l := z3.lt; obtain ⟨z3c, z3f⟩ := obj_facts z3)
    all_goals
      have Hw2 := Lib.hid (Row.stays (by (focus ((repeat (first | with_reducible exact Hw2.out | with_reducible apply Row.drew | with_reducible apply Row.alloc | with_reducible apply Row.setRow | (intro hSb; first | (simp at hSb; done) | (simp at hSb; omega) | omega))); done))) hS5)
      go_wp2_with fail
      rw [storeF z1]
      (rw [storeN]; rotate_left; (exact HasN.au))
      ((try simp only [Exit.inBlock, Exit.then]); refine ret_node (by rfl) (by rfl) (by (exact Var.au)) (by first | rfl | simp) (by rfl) ?_)
      refine Says.ok HX.out (by (exact Stays.au)) ⟨_, _, rfl, (show Row _ _ [a2, Px.none (Px.offOf E s), a5] (.slice (some ⟨w5.heap.size, 0, none⟩) 3 3) from Row.mono (row_new' (S := fun b => w.heap.size < b ∧ b < w5.heap.size ∧ b ≠ w1.heap.size) (l := [a2, Px.none (Px.offOf E s), a5]) (b := w5.heap.size) (nodes_cons (Row.mono (by (have QQ := Hw2; exact Row.au)) (by intro b hb; (try simp at hb); (try simp); omega)) (nodes_cons (t := Px.none (Px.offOf E s)) (kv := .slice none 0 0) (Row.nil _ _) (nodes_one (Row.mono (by (have QQ := Hw5; exact Row.au)) (by intro b hb; (try simp at hb); (try simp); omega))))) (by simp [maxLen]) (by simp) rfl) ?_)⟩ (HR.out.locals ?_)
      · intro b hb; (try simp at hb); omega
      · (exact Locals.au)
  · have HR := Lib.hid (show RdAt B E g w3 (Px.rest s2) by have := HR.out; unfold Px.accepted at this; rw [if_pos hac] at this; exact this)
    have HX := Lib.hid (HX.out.trans (congrArg (fun r => Res.bind r _) (if_pos hac)))
    have hl3 := Lib.hid (Px.acc_left hac (by decide))
    have HX := Lib.hid (show R = (Px.expr E (Px.rest s2)).bind fun v s2 => (Px.block E rd s2).bind fun b s3 => .ok (T.of 32 (Px.offOf E s) [a2, v, b]) s3 from HX.out)
    clear hac
    go_wp2_with fail
    refine (expr_any (HR.out.locals (by (exact Locals.au)))).mono ?_
    intro e4 w4 hm4
    refine hm4.cases ?_ ?_
    rotate_left
    focus (intro db sb hrb heb hRb hSb; subst heb; go_wp2_with fail; ((try simp only [Exit.inBlock, Exit.then]); refine post_panic rfl ?_); exact Says.bad (HX.out.trans (Res.bind_of_bad hrb _)) (Stays.trans (a := w) (by (exact Stays.au)) hSb) hRb)
    intro a4 s4 v4 hr4 he4 hv4 hR4 hS4
    subst he4
    have HX := Lib.hid (HX.out.trans (Res.bind_of_ok hr4 _))
    have HR := Lib.hid hR4
    have HS := Lib.hid (Stays.trans (a := w) (by (exact Stays.au)) hS4)
    have Hr4 := Lib.hid hr4
    have hs4 := hS4.size
    (try simp at hs4)
    clear hm4 hr4 hR4
    obtain ⟨p4, c4, rfl, hw4⟩ := hv4
    have Hw4 := Lib.hid hw4.lt
    clear hw4
    unfold nodeVal
    have hl4 := Lib.hid (Px.suf_left (Px.suf_expr _) Hr4.out)
    have hn4 : left s4 ≤ N + 1 := by have := hl4.out; have := hl3.out; have := hl2.out; have := cons_left Ht.out; have := HN.out; omega
    have z0' : Var 25 w4 w.heap.size _ := Var.stays (by (exact Var.au)) hS4
    clear z0 z0c z0f
    have z0 := z0'
    clear z0'
    have z0l := z0.lt
    obtain ⟨z0c, z0f⟩ := obj_facts z0
    have z1' : Var 25 w4 w1.heap.size _ := Var.stays (by (exact Var.au)) hS4
    clear z1 z1c z1f
    have z1 := z1'
    clear z1'
    have z1l := z1.lt
    obtain ⟨z1c, z1f⟩ := obj_facts z1
    have z2' : Var 25 w4 w2.heap.size _ := Var.stays (by (exact Var.au)) hS4
    clear z2 z2c z2f
    have z2 := z2'
    clear z2'
    have z2l := z2.lt
    obtain ⟨z2c, z2f⟩ := obj_facts z2
    have z3' : Var 25 w4 (w2.heap.size + 1) _ := Var.stays (by (exact Var.au)) hS4
    clear z3 z3c z3f
    have z3 := z3'
    clear z3'
    have z3l := z3.lt
    obtain ⟨z3c, z3f⟩ := obj_facts z3
    have Hw2 := Lib.hid (Row.stays (by (have QQ := Hw2; exact Row.au)) hS4)
    go_wp2_with fail
    rw [store9 z3 (by rfl)]
    have HR := Lib.hid (show RdAt B E g (w4.setRow (w2.heap.size + 1) #[.int .i64 a4.kind, .string ⟨a4.name.toArray⟩, .string ⟨a4.other.toArray⟩, .int .i64 a4.n, .int .i64 a4.len, .int .i64 a4.init, .bool a4.ghost, .slice p4 a4.kids.length c4, .int .i64 a4.off]) _ from HR.out.locals (by (exact Locals.au)))
    have HS := Lib.hid (show Stays B none w (w4.setRow (w2.heap.size + 1) #[.int .i64 a4.kind, .string ⟨a4.name.toArray⟩, .string ⟨a4.other.toArray⟩, .int .i64 a4.n, .int .i64 a4.len, .int .i64 a4.init, .bool a4.ghost, .slice p4 a4.kids.length c4, .int .i64 a4.off]) by (exact Stays.au))
    have hs8 : (w4.setRow (w2.heap.size + 1) #[.int .i64 a4.kind, .string ⟨a4.name.toArray⟩, .string ⟨a4.other.toArray⟩, .int .i64 a4.n, .int .i64 a4.len, .int .i64 a4.init, .bool a4.ghost, .slice p4 a4.kids.length c4, .int .i64 a4.off]).heap.size = w4.heap.size := by simp
    have z0' := z0.row_other (g := (w2.heap.size + 1)) (by omega) #[.int .i64 a4.kind, .string ⟨a4.name.toArray⟩, .string ⟨a4.other.toArray⟩, .int .i64 a4.n, .int .i64 a4.len, .int .i64 a4.init, .bool a4.ghost, .slice p4 a4.kids.length c4, .int .i64 a4.off]
    clear z0 z0c z0f
    have z0 := z0'
    clear z0'
    have z1' := z1.row_other (g := (w2.heap.size + 1)) (by omega) #[.int .i64 a4.kind, .string ⟨a4.name.toArray⟩, .string ⟨a4.other.toArray⟩, .int .i64 a4.n, .int .i64 a4.len, .int .i64 a4.init, .bool a4.ghost, .slice p4 a4.kids.length c4, .int .i64 a4.off]
    clear z1 z1c z1f
    have z1 := z1'
    clear z1'
    have z2' := z2.row_other (g := (w2.heap.size + 1)) (by omega) #[.int .i64 a4.kind, .string ⟨a4.name.toArray⟩, .string ⟨a4.other.toArray⟩, .int .i64 a4.n, .int .i64 a4.len, .int .i64 a4.init, .bool a4.ghost, .slice p4 a4.kids.length c4, .int .i64 a4.off]
    clear z2 z2c z2f
    have z2 := z2'
    clear z2'
    have z3' := Var.row_new (HasV.of z3) #[.int .i64 a4.kind, .string ⟨a4.name.toArray⟩, .string ⟨a4.other.toArray⟩, .int .i64 a4.n, .int .i64 a4.len, .int .i64 a4.init, .bool a4.ghost, .slice p4 a4.kids.length c4, .int .i64 a4.off]
    clear z3 z3c z3f
    have z3 := z3'
    clear z3'
    have Hw2 := Lib.hid (show Row _ (w4.setRow (w2.heap.size + 1) #[.int .i64 a4.kind, .string ⟨a4.name.toArray⟩, .string ⟨a4.other.toArray⟩, .int .i64 a4.n, .int .i64 a4.len, .int .i64 a4.init, .bool a4.ghost, .slice p4 a4.kids.length c4, .int .i64 a4.off]) _ _ by (have QQ := Hw2; exact Row.au))
    have Hw4 := Lib.hid (show Row _ (w4.setRow (w2.heap.size + 1) #[.int .i64 a4.kind, .string ⟨a4.name.toArray⟩, .string ⟨a4.other.toArray⟩, .int .i64 a4.n, .int .i64 a4.len, .int .i64 a4.init, .bool a4.ghost, .slice p4 a4.kids.length c4, .int .i64 a4.off]) _ _ by (have QQ := Hw4; exact Row.au))
    generalize w4.setRow (w2.heap.size + 1) #[.int .i64 a4.kind, .string ⟨a4.name.toArray⟩, .string ⟨a4.other.toArray⟩, .int .i64 a4.n, .int .i64 a4.len, .int .i64 a4.init, .bool a4.ghost, .slice p4 a4.kids.length c4, .int .i64 a4.off] = w8 at *
    obtain ⟨z0c, z0f⟩ := obj_facts z0
    have z0l := z0.lt
    obtain ⟨z1c, z1f⟩ := obj_facts z1
    have z1l := z1.lt
    obtain ⟨z2c, z2f⟩ := obj_facts z2
    have z2l := z2.lt
    obtain ⟨z3c, z3f⟩ := obj_facts z3
    have z3l := z3.lt
    go_region_law (go_simp; go_at_call 155; refine (block_rd (HR.out.locals (by (repeat (first | with_reducible exact HL.out | with_reducible refine Locals.alloc ?_ _ | with_reducible refine Locals.drew ?_ | (with_reducible refine Locals.setRowN ?_ ?_ ?_ _; rotate_left; (focus ((repeat (first | with_reducible exact HasV.new _ _ _ | with_reducible refine HasV.setRow ?_ _ _ | with_reducible refine HasV.alloc ?_ _ | with_reducible exact HasV.of (by assumption))); done)); (focus (first | with_reducible exact Nat.le_refl _ | with_reducible assumption | omega | (simp; omega)))) | with_reducible exact Locals.refl _ _)))) rd Hm.out HF.out hn4).mono ?_; intro e5 w5 hm5; refine hm5.cases ?_ ?_; rotate_left; (focus (intro db sb hrb heb hRb hSb; subst heb; refine post_panic rfl ?_; exact Says.bad (HX.out.trans (Res.bind_of_bad hrb _)) (Stays.trans (a := w) (by (repeat (first | with_reducible exact HS.out | with_reducible refine Stays.alloc ?_ _ | with_reducible refine Stays.drew ?_ | (with_reducible refine Stays.setRow ?_ ?_ _; rotate_left; (focus (first | with_reducible exact Nat.le_refl _ | with_reducible assumption | omega | (simp; omega)))) | with_reducible exact Stays.refl _ _ _))) hSb) hRb)); intro a5 s5 v5 hr5 he5 hv5 hR5 hS5; subst he5; have HX := Lib.hid (HX.out.trans (Res.bind_of_ok hr5 _)); have HR := Lib.hid hR5; have HS := Lib.hid (Stays.trans (a := w) (by (repeat (first | with_reducible exact HS.out | with_reducible refine Stays.alloc ?_ _ | with_reducible refine Stays.drew ?_ | (with_reducible refine Stays.setRow ?_ ?_ _; rotate_left; (focus (first | with_reducible exact Nat.le_refl _ | with_reducible assumption | omega | (simp; omega)))) | with_reducible exact Stays.refl _ _ _))) hS5); have Hr5 := Lib.hid hr5; have hs5 := hS5.size; (try simp at hs5); clear hm5 hr5 hR5; obtain ⟨p5, c5, rfl, hw5⟩ := hv5; have Hw5 := Lib.hid hw5.lt; clear hw5; unfold nodeVal; have z0' : Var 25 w5 w.heap.size _ := Var.stays (by (focus ((repeat (first | with_reducible assumption | with_reducible exact Var.new _ _ _ | (with_reducible refine Var.row_new ?_ _; (focus ((repeat (first | with_reducible exact HasV.new _ _ _ | with_reducible refine HasV.setRow ?_ _ _ | with_reducible refine HasV.alloc ?_ _ | with_reducible exact HasV.of (by assumption))); done))) | with_reducible apply Var.drew | with_reducible apply Var.row_other | with_reducible apply Var.alloc | omega | (simp; omega))); done))) hS5; clear z0 z0c z0f; have z0 := z0'; clear z0'; have z0l := z0.lt; obtain ⟨z0c, z0f⟩ := obj_facts z0; have z1' : Var 25 w5 w1.heap.size _ := Var.stays (by (focus ((repeat (first | with_reducible assumption | with_reducible exact Var.new _ _ _ | (with_reducible refine Var.row_new ?_ _; (focus ((repeat (first | with_reducible exact HasV.new _ _ _ | with_reducible refine HasV.setRow ?_ _ _ | with_reducible refine HasV.alloc ?_ _ | with_reducible exact HasV.of (by assumption))); done))) | with_reducible apply Var.drew | with_reducible apply Var.row_other | with_reducible apply Var.alloc | omega | (simp; omega))); done))) hS5; clear z1 z1c z1f; have z1 := z1'; clear z1'; have z1l := z1.lt; obtain ⟨z1c, z1f⟩ := obj_facts z1; have z2' : Var 25 w5 w2.heap.size _ := Var.stays (by (focus ((repeat (first | with_reducible assumption | with_reducible exact Var.new _ _ _ | (with_reducible refine Var.row_new ?_ _; (focus ((repeat (first | with_reducible exact HasV.new _ _ _ | with_reducible refine HasV.setRow ?_ _ _ | with_reducible refine HasV.alloc ?_ _ | with_reducible exact HasV.of (by assumption))); done))) | with_reducible apply Var.drew | with_reducible apply Var.row_other | with_reducible apply Var.alloc | omega | (simp; omega))); done))) hS5; clear z2 z2c z2f; have z2 := z2'; clear z2'; have z2l := z2.lt; obtain ⟨z2c, z2f⟩ := obj_facts z2; have z3' : Var 25 w5 (w2.heap.size + 1) _ := Var.stays (by (focus ((repeat (first | with_reducible assumption | with_reducible exact Var.new _ _ _ | (with_reducible refine Var.row_new ?_ _; (focus ((repeat (first | with_reducible exact HasV.new _ _ _ | with_reducible refine HasV.setRow ?_ _ _ | with_reducible refine HasV.alloc ?_ _ | with_reducible exact HasV.of (by assumption))); done))) | with_reducible apply Var.drew | with_reducible apply Var.row_other | with_reducible apply Var.alloc | omega | (simp; omega))); done))) hS5; clear z3 z3c z3f; have z3 := z3'; clear z3'; have z3l := z3.lt; obtain ⟨z3c, z3f⟩ := obj_facts z3)
    all_goals
      have Hw2 := Lib.hid (Row.stays (by (focus ((repeat (first | with_reducible exact Hw2.out | with_reducible apply Row.drew | with_reducible apply Row.alloc | with_reducible apply Row.setRow | (intro hSb; first | (simp at hSb; done) | (simp at hSb; omega) | omega))); done))) hS5)
      have Hw4 := Lib.hid (Row.stays (by (focus ((repeat (first | with_reducible exact Hw4.out | with_reducible apply Row.drew | with_reducible apply Row.alloc | with_reducible apply Row.setRow | (intro hSb; first | (simp at hSb; done) | (simp at hSb; omega) | omega))); done))) hS5)
      go_wp2_with fail
      rw [storeF z1]
      (rw [storeN]; rotate_left; (exact HasN.au))
      ((try simp only [Exit.inBlock, Exit.then]); refine ret_node (by rfl) (by rfl) (by (exact Var.au)) (by first | rfl | simp) (by rfl) ?_)
      refine Says.ok HX.out (by (exact Stays.au)) ⟨_, _, rfl, (show Row _ _ [a2, a4, a5] (.slice (some ⟨w5.heap.size, 0, none⟩) 3 3) from Row.mono (row_new' (S := fun b => w.heap.size < b ∧ b < w5.heap.size ∧ b ≠ w1.heap.size) (l := [a2, a4, a5]) (b := w5.heap.size) (nodes_cons (Row.mono (by (have QQ := Hw2; exact Row.au)) (by intro b hb; (try simp at hb); (try simp); omega)) (nodes_cons (Row.mono (by (have QQ := Hw4; exact Row.au)) (by intro b hb; (try simp at hb); (try simp); omega)) (nodes_one (Row.mono (by (have QQ := Hw5; exact Row.au)) (by intro b hb; (try simp at hb); (try simp); omega))))) (by simp [maxLen]) (by simp) rfl) ?_)⟩ (HR.out.locals ?_)
      · intro b hb; (try simp at hb); omega
      · (exact Locals.au)
end Go.Proofs.YtbgpboiblggmiaaGreatDoor

/-
  Walks over cas.
-/
namespace Go.Proofs.YtbgpboiblggmiaaGreatDoor
open Go.RowKit
open Px (St T D Res left Takes)

theorem RowX.drew {S : Nat → Prop} {w : World} {l : List T} {kv : Value} (h : RowX S w l kv) : RowX S w.drew l kv := h.keep (fun _ h _ => h) (fun _ _ _ hb => hb)
theorem Var.grown {t : TypeId} {w w9 : World} {o : Obj} {b : Nat} {cs : Array Value} {row : Option Nat} (h : Var t w b cs) (hg : (w.alloc o).grownBy w9 row) (hne : row ≠ some b) : Var t w9 b cs :=
  (hg.block b (by have := h.lt; simp; omega) (Ne.symm hne)).trans (obj_old h o)

/-- a tree under way: the reader's state is s, the result lies in block b0, the tree in block b1, and its n trees are l -/
structure Under (B E g : Nat) (w : World) (b0 b1 : Nat) (c0 : Array Value) (c1 : Value → Array Value) (l : List T) (n : Nat) (s : St) (a : Option Addr) (cap : Nat) (wx : World) : Prop where
  rd : RdAt B E g wx s
  stays : Stays B none w wx
  v0 : Var 25 wx b0 c0
  v1 : Var 25 wx b1 (c1 (.slice a n cap))
  row : RowX (fun b => b1 + 1 ≤ b) wx l (.slice a n cap)

theorem Own.lo {kv : Value} {lo hi : Nat} (h : ∀ b, kv.ownBlock = some b → lo ≤ b ∧ b < hi) : ∀ b, b < lo → kv.ownBlock ≠ some b := fun b hb e => by have := h b e; omega

theorem Under.put {B E g : Nat} {w w2 : World} {b0 b1 : Nat} {c0 : Array Value} {c1 : Value → Array Value} {l : List T} {n : Nat} {s : St} {a : Option Addr} {cap : Nat} {kv : Value}
    (hc : ∀ k k', (c1 k).setIfInBounds 7 k' = c1 k') (hR : RdAt B E g w2 s) (hS : Stays B none w w2) (hg : g < w.heap.size) (h0 : w.heap.size ≤ b0) (h01 : b0 < b1)
    (z0 : Var 25 w2 b0 c0) (z1 : Var 25 w2 b1 (c1 kv)) (hrow : RowX (fun b => b1 + 1 ≤ b) w2 l (.slice a n cap)) :
    Under B E g w b0 b1 c0 c1 l n s a cap (w2.setCell ⟨b1, 7, none⟩ (.slice a n cap)) := by
  rw [storeF z1, hc]
  exact ⟨hR.locals ((Locals.refl _ _).setRowN (HasV.of z1) (by omega) _), hS.setRow (by omega) _, z0.row_other (by omega) _, Var.row_new (HasV.of z1) _, hrow.setRow (by omega) _⟩

theorem grow_row {B E g : Nat} {w w2 w9 : World} {b0 b1 hi : Nat} {c0 : Array Value} {l : List T} {n : Nat} {s : St} {a : Option Addr} {cap : Nat} {xs : List Value} {t : T} {tkv : Value} {o : Obj} {g9 cap9 : Nat}
    (hn : n = l.length) (hR : RdAt B E g w2 s) (hS : Stays B none w w2) (hg : g < w.heap.size) (h0 : w.heap.size ≤ b0) (h01 : b0 < b1) (hlo : b1 + 1 ≤ hi) (hhi : hi ≤ w2.heap.size)
    (z0 : Var 25 w2 b0 c0)
    (hx1 : w2.ownsRow 0 25 9 (.slice a n cap) n xs) (hx2 : ∀ b, (Value.slice a n cap).ownBlock = some b → b1 + 1 ≤ b ∧ b < hi)
    (hx3 : Nodes (fun b => (b1 + 1 ≤ b ∧ b < hi) ∧ (Value.slice a n cap).ownBlock ≠ some b) w2 l xs) (ht : Row (fun b => hi ≤ b ∧ b < w2.heap.size) w2 t.kids tkv)
    (hown : w9.ownsRow 0 25 9 (.slice (some ⟨g9, 0, none⟩) (n + 1) cap9) (n + 1) (xs ++ nodeCells t tkv)) (hgrow : (w2.alloc o).grownBy w9 (Value.slice a n cap).ownBlock) (hat : (Value.slice a n cap).ownBlock = some g9 ∨ g9 = w2.heap.size + 1) :
    (RdAt B E g w9 s ∧ Stays B none w w9) ∧ Var 25 w9 b0 c0 ∧ RowX (fun b => b1 + 1 ≤ b) w9 (l ++ [t]) (.slice (some ⟨g9, 0, none⟩) (n + 1) cap9) := by
  subst hn
  have h9 := append_fin (lo := b1 + 1) hS hR hg (by omega) hx1 hx2 hgrow
  exact ⟨⟨h9.2, h9.1⟩, Var.grown z0 hgrow (by intro e; have := hx2 _ e; omega), append_row hx1 hx2 hx3 ht hlo hhi hown hgrow hat⟩

theorem Under.grow {B E g : Nat} {w w2 w9 : World} {b0 b1 hi : Nat} {c0 : Array Value} {c1 : Value → Array Value} {l : List T} {n : Nat} {s : St} {a : Option Addr} {cap : Nat} {xs : List Value} {t : T} {tkv : Value} {o : Obj} {g9 cap9 : Nat}
    (hn : n = l.length) (hc : ∀ k k', (c1 k).setIfInBounds 7 k' = c1 k') (hR : RdAt B E g w2 s) (hS : Stays B none w w2) (hg : g < w.heap.size) (h0 : w.heap.size ≤ b0) (h01 : b0 < b1) (hlo : b1 + 1 ≤ hi) (hhi : hi ≤ w2.heap.size)
    (z0 : Var 25 w2 b0 c0) (z1 : Var 25 w9 b1 (c1 (.slice a n cap)))
    (hx1 : w2.ownsRow 0 25 9 (.slice a n cap) n xs) (hx2 : ∀ b, (Value.slice a n cap).ownBlock = some b → b1 + 1 ≤ b ∧ b < hi)
    (hx3 : Nodes (fun b => (b1 + 1 ≤ b ∧ b < hi) ∧ (Value.slice a n cap).ownBlock ≠ some b) w2 l xs) (ht : Row (fun b => hi ≤ b ∧ b < w2.heap.size) w2 t.kids tkv)
    (hown : w9.ownsRow 0 25 9 (.slice (some ⟨g9, 0, none⟩) (n + 1) cap9) (n + 1) (xs ++ nodeCells t tkv)) (hgrow : (w2.alloc o).grownBy w9 (Value.slice a n cap).ownBlock) (hat : (Value.slice a n cap).ownBlock = some g9 ∨ g9 = w2.heap.size + 1) :
    Under B E g w b0 b1 c0 c1 (l ++ [t]) (n + 1) s (some ⟨g9, 0, none⟩) cap9 (w9.setCell ⟨b1, 7, none⟩ (.slice (some ⟨g9, 0, none⟩) (n + 1) cap9)) := by
  obtain ⟨⟨h1, h2⟩, h3, h4⟩ := grow_row hn hR hS hg h0 h01 hlo hhi z0 hx1 hx2 hx3 ht hown hgrow hat
  exact Under.put hc h1 h2 hg h0 h01 h3 z1 h4

def zero9 : Array Value := #[.int .i64 0, .string ⟨#[]⟩, .string ⟨#[]⟩, .int .i64 0, .int .i64 0, .int .i64 0, .bool false, .slice none 0 0, .int .i64 0]
def cells9 (t : T) (kv : Value) : Array Value := #[.int .i64 t.kind, .string ⟨t.name.toArray⟩, .string ⟨t.other.toArray⟩, .int .i64 t.n, .int .i64 t.len, .int .i64 t.init, .bool t.ghost, kv, .int .i64 t.off]

set_option maxRecDepth 100000 in
set_option maxHeartbeats 2000000 in
theorem cas_rd {B E g : Nat} {w : World} {s : St} (h : RdAt B E g w s) {t : Lx.Tok} {r : List Lx.Tok} (ht : s.toks = t :: r) :
    Calls Tryz.prog 177 #[.pointer (some ⟨g, 0, none⟩)] w (Says B E g w (encT w.heap.size) (Px.cas E s)) := by
  obtain ⟨i0, hi, hz0, hz1, hz2⟩ := info_parts infoNode
  have Ht := Lib.hid ht
  clear ht
  have hlt := h.lt
  have hB := h.le
  have HR := Lib.hid h
  have HS := Lib.hid (Stays.refl B none w)
  clear h
  obtain ⟨R, hR⟩ : ∃ R, R = Px.cas E s := ⟨_, rfl⟩
  rw [← hR]
  unfold Px.cas at hR
  have HX := Lib.hid hR
  clear hR
  go_enter Tryz.func177, Tryz.ntmps177
  go_wp2_with fail
  refine (begin_rd (HR.out.locals (by (exact Locals.au))) 23 Ht.out).mono ?_
  rintro e1 w1 ⟨rfl, hS1, hR1⟩
  unfold nodeVal
  have HR := Lib.hid hR1
  have HS := Lib.hid (Stays.trans (a := w) (by (exact Stays.au)) hS1)
  have hs1 := hS1.size
  (try simp at hs1)
  clear hR1
  have z0 : Var 25 w1 w.heap.size _ := Var.stays (by (exact Var.au)) hS1
  have z0l := z0.lt
  obtain ⟨z0c, z0f⟩ := obj_facts z0
  go_upto_region 2 with (fail)
  go_cut [] (fun wx => ∃ t s2 a cap, Px.refr E (Px.rest s) = .ok t s2 ∧ Under B E g w w.heap.size w1.heap.size zero9 (cells9 (T.of 23 (Px.offOf E s) [])) [t] 1 s2 a cap wx)
  case first =>
    go_wp2_with fail
    have Hrow := Lib.hid (RowX.nil (fun b => w1.heap.size + 1 ≤ b) (w1.alloc (.cells (cells9 (T.of 23 (Px.offOf E s) []) (.slice none 0 0)) 25)))
    unfold cells9 at Hrow
    go_region_law (first | (go_simp; go_at_call 165; refine (ref_any (HR.out.locals (by (repeat (first | with_reducible exact HL.out | with_reducible refine Locals.alloc ?_ _ | with_reducible refine Locals.drew ?_ | (with_reducible refine Locals.setRowN ?_ ?_ ?_ _; rotate_left; (focus ((repeat (first | with_reducible exact HasV.new _ _ _ | with_reducible refine HasV.setRow ?_ _ _ | with_reducible refine HasV.alloc ?_ _ | with_reducible exact HasV.of (by assumption))); done)); (focus (first | with_reducible exact Nat.le_refl _ | with_reducible assumption | omega | (simp; omega)))) | with_reducible exact Locals.refl _ _))))).mono ?_; intro e2 w2 hm2; refine hm2.cases ?_ ?_; rotate_left; (focus (intro db sb hrb heb hRb hSb; subst heb; refine post_panic rfl ?_; exact Says.bad (HX.out.trans (Res.bind_of_bad hrb _)) (Stays.trans (a := w) (by (repeat (first | with_reducible exact HS.out | with_reducible refine Stays.alloc ?_ _ | with_reducible refine Stays.drew ?_ | (with_reducible refine Stays.setRow ?_ ?_ _; rotate_left; (focus (first | with_reducible exact Nat.le_refl _ | with_reducible assumption | omega | (simp; omega)))) | with_reducible exact Stays.refl _ _ _))) hSb) hRb)); intro a2 s2 v2 hr2 he2 hv2 hR2 hS2; subst he2; have HX := Lib.hid (HX.out.trans (Res.bind_of_ok hr2 _)); have HR := Lib.hid hR2; have HS := Lib.hid (Stays.trans (a := w) (by (repeat (first | with_reducible exact HS.out | with_reducible refine Stays.alloc ?_ _ | with_reducible refine Stays.drew ?_ | (with_reducible refine Stays.setRow ?_ ?_ _; rotate_left; (focus (first | with_reducible exact Nat.le_refl _ | with_reducible assumption | omega | (simp; omega)))) | with_reducible exact Stays.refl _ _ _))) hS2); have Hr2 := Lib.hid hr2; have hs2 := hS2.size; (try simp at hs2); clear hm2 hr2 hR2; obtain ⟨p2, c2, rfl, hw2⟩ := hv2; have Hw2 := Lib.hid hw2.lt; clear hw2; unfold nodeVal; have z0' : Var 25 w2 w.heap.size _ := Var.stays (by (focus ((repeat (first | with_reducible assumption | with_reducible exact Var.new _ _ _ | (with_reducible refine Var.row_new ?_ _; (focus ((repeat (first | with_reducible exact HasV.new _ _ _ | with_reducible refine HasV.setRow ?_ _ _ | with_reducible refine HasV.alloc ?_ _ | with_reducible exact HasV.of (by assumption))); done))) | with_reducible apply Var.drew | with_reducible apply Var.row_other | with_reducible apply Var.alloc | omega | (simp; omega))); done))) hS2; clear z0 z0c z0f; have z0 := z0'; clear z0'; have z0l := z0.lt; obtain ⟨z0c, z0f⟩ := obj_facts z0; have z1' : Var 25 w2 w1.heap.size _ := Var.stays (by (focus ((repeat (first | with_reducible assumption | with_reducible exact Var.new _ _ _ | (with_reducible refine Var.row_new ?_ _; (focus ((repeat (first | with_reducible exact HasV.new _ _ _ | with_reducible refine HasV.setRow ?_ _ _ | with_reducible refine HasV.alloc ?_ _ | with_reducible exact HasV.of (by assumption))); done))) | with_reducible apply Var.drew | with_reducible apply Var.row_other | with_reducible apply Var.alloc | omega | (simp; omega))); done))) hS2; have z1 := z1'; clear z1'; have z1l := z1.lt; obtain ⟨z1c, z1f⟩ := obj_facts z1; obtain ⟨xs, hx1, hx2, hx3⟩ := (RowX.lt (RowX.drew Hrow.out)).stays hS2; have Hx1 := Lib.hid (show w2.ownsRow 0 25 9 _ 0 xs from hx1); have Hx2 := Lib.hid hx2; have Hx3 := Lib.hid hx3; have hown2 := Own.lo hx2; clear hx1 hx2 hx3) | (refine step_append_lies _ (by rfl) (.tmp 7) (.tmp 10) 23 (by rfl) 0 25 i0 _ 9 104 Tryz.underlying23 hi hz0 hz1 hz2 (by rfl) (by omega) (.slice none 0 0) 0 xs (by rfl) (Hx1.out.alloc _) ⟨w2.heap.size, 0, none⟩ 1 1 (nodeCells a2 (.slice p2 a2.kids.length c2)) (by rfl) (by rfl) (World.news_of_block (cs := (nodeCells a2 (.slice p2 a2.kids.length c2)).toArray) (t := 25) (fr := (0, 0)) (heap_alloc_new w2 _)) (node_ones _ _ _ _) (by omega) (by unfold maxLen; omega) (by omega) (by omega) (w2.heap.size + 1) (by simp) ?_; intro gA capA wA hownA hgrowA hatA hltA; have HownA := Lib.hid hownA; have HgrowA := Lib.hid hgrowA; have HatA := Lib.hid hatA; have z1' := Var.grown z1 hgrowA (hown2 _ (by omega)); clear z1 z1c z1f; have z1 := z1'; clear z1'; obtain ⟨z1c, z1f⟩ := obj_facts z1; have z1l := z1.lt; clear hownA hatA))
    all_goals (go_wp2_with fail; go_meet; exact ⟨a2, s2, _, _, Hr2.out, Under.grow (l := []) rfl (fun _ _ => rfl) HR.out HS.out hlt (Nat.le_refl _) (by omega) (by simp) (by simpa using hs2) z0 z1 Hx1.out Hx2.out Hx3.out Hw2.out HownA.out HgrowA.out HatA.out⟩)
  case rest =>
    obtain ⟨a3, s3, p3, c3, hr3, hu3⟩ := hcut
    obtain ⟨w3, hw3⟩ : ∃ w3, w3 = wc := ⟨_, rfl⟩
    subst hw3
    have HX := Lib.hid (HX.out.trans (Res.bind_of_ok hr3 _))
    have HR := Lib.hid hu3.rd
    have HS := Lib.hid hu3.stays
    have Hrow := Lib.hid hu3.row
    have z0 := hu3.v0
    have z1 := hu3.v1
    unfold zero9 at z0
    unfold cells9 at z1
    clear hu3 hr3
    obtain ⟨z0c, z0f⟩ := obj_facts z0
    have z0l := z0.lt
    obtain ⟨z1c, z1f⟩ := obj_facts z1
    have z1l := z1.lt
    go_wp2_with fail
    refine (expect_any (HR.out.locals (by (exact Locals.au))) [44] (by decide)).mono ?_
    intro e4 w4 hm4
    refine hm4.cases ?_ ?_
    rotate_left
    focus (intro db sb hrb heb hRb hSb; subst heb; go_wp2_with fail; ((try simp only [Exit.inBlock, Exit.then]); refine post_panic rfl ?_); exact Says.bad (HX.out.trans (Res.bind_of_bad hrb _)) (Stays.trans (a := w) (by (exact Stays.au)) hSb) hRb)
    intro a4 s4 v4 hr4 he4 hv4 hR4 hS4
    subst he4
    have HX := Lib.hid (HX.out.trans (Res.bind_of_ok hr4 _))
    have HR := Lib.hid hR4
    have HS := Lib.hid (Stays.trans (a := w) (by (exact Stays.au)) hS4)
    have Hr4 := Lib.hid hr4
    have hs4 := hS4.size
    (try simp at hs4)
    clear hm4 hr4 hR4
    obtain rfl := hv4
    have z0' : Var 25 w4 w.heap.size _ := Var.stays (by (exact Var.au)) hS4
    clear z0 z0c z0f
    have z0 := z0'
    clear z0'
    have z0l := z0.lt
    obtain ⟨z0c, z0f⟩ := obj_facts z0
    have z1' : Var 25 w4 w1.heap.size _ := Var.stays (by (exact Var.au)) hS4
    clear z1 z1c z1f
    have z1 := z1'
    clear z1'
    have z1l := z1.lt
    obtain ⟨z1c, z1f⟩ := obj_facts z1
    have Hrow := Lib.hid (Hrow.out.stays hS4)
    go_upto_region 4 with (fail)
    go_cut [] (fun wx => ∃ t s2 a cap, Px.expr E s4 = .ok t s2 ∧ Under B E g w w.heap.size w1.heap.size zero9 (cells9 (T.of 23 (Px.offOf E s) [])) [a3, t] 2 s2 a cap wx)
    case first =>
      go_wp2_with fail
      go_region_law (first | (go_simp; go_at_call 61; refine (expr_any (HR.out.locals (by (repeat (first | with_reducible exact HL.out | with_reducible refine Locals.alloc ?_ _ | with_reducible refine Locals.drew ?_ | (with_reducible refine Locals.setRowN ?_ ?_ ?_ _; rotate_left; (focus ((repeat (first | with_reducible exact HasV.new _ _ _ | with_reducible refine HasV.setRow ?_ _ _ | with_reducible refine HasV.alloc ?_ _ | with_reducible exact HasV.of (by assumption))); done)); (focus (first | with_reducible exact Nat.le_refl _ | with_reducible assumption | omega | (simp; omega)))) | with_reducible exact Locals.refl _ _))))).mono ?_; intro e5 w5 hm5; refine hm5.cases ?_ ?_; rotate_left; (focus (intro db sb hrb heb hRb hSb; subst heb; refine post_panic rfl ?_; exact Says.bad (HX.out.trans (Res.bind_of_bad hrb _)) (Stays.trans (a := w) (by (repeat (first | with_reducible exact HS.out | with_reducible refine Stays.alloc ?_ _ | with_reducible refine Stays.drew ?_ | (with_reducible refine Stays.setRow ?_ ?_ _; rotate_left; (focus (first | with_reducible exact Nat.le_refl _ | with_reducible assumption | omega | (simp; omega)))) | with_reducible exact Stays.refl _ _ _))) hSb) hRb)); intro a5 s5 v5 hr5 he5 hv5 hR5 hS5; subst he5; have HX := Lib.hid (HX.out.trans (Res.bind_of_ok hr5 _)); have HR := Lib.hid hR5; have HS := Lib.hid (Stays.trans (a := w) (by (repeat (first | with_reducible exact HS.out | with_reducible refine Stays.alloc ?_ _ | with_reducible refine Stays.drew ?_ | (with_reducible refine Stays.setRow ?_ ?_ _; rotate_left; (focus (first | with_reducible exact Nat.le_refl _ | with_reducible assumption | omega | (simp; omega)))) | with_reducible exact Stays.refl _ _ _))) hS5); have Hr5 := Lib.hid hr5; have hs5 := hS5.size; (try simp at hs5); clear hm5 hr5 hR5; obtain ⟨p5, c5, rfl, hw5⟩ := hv5; have Hw5 := Lib.hid hw5.lt; clear hw5; unfold nodeVal; have z0' : Var 25 w5 w.heap.size _ := Var.stays (by (focus ((repeat (first | with_reducible assumption | with_reducible exact Var.new _ _ _ | (with_reducible refine Var.row_new ?_ _; (focus ((repeat (first | with_reducible exact HasV.new _ _ _ | with_reducible refine HasV.setRow ?_ _ _ | with_reducible refine HasV.alloc ?_ _ | with_reducible exact HasV.of (by assumption))); done))) | with_reducible apply Var.drew | with_reducible apply Var.row_other | with_reducible apply Var.alloc | omega | (simp; omega))); done))) hS5; clear z0 z0c z0f; have z0 := z0'; clear z0'; have z0l := z0.lt; obtain ⟨z0c, z0f⟩ := obj_facts z0; have z1' : Var 25 w5 w1.heap.size _ := Var.stays (by (focus ((repeat (first | with_reducible assumption | with_reducible exact Var.new _ _ _ | (with_reducible refine Var.row_new ?_ _; (focus ((repeat (first | with_reducible exact HasV.new _ _ _ | with_reducible refine HasV.setRow ?_ _ _ | with_reducible refine HasV.alloc ?_ _ | with_reducible exact HasV.of (by assumption))); done))) | with_reducible apply Var.drew | with_reducible apply Var.row_other | with_reducible apply Var.alloc | omega | (simp; omega))); done))) hS5; clear z1 z1c z1f z1l; have z1 := z1'; clear z1'; have z1l := z1.lt; obtain ⟨z1c, z1f⟩ := obj_facts z1; obtain ⟨xs, hx1, hx2, hx3⟩ := (RowX.lt (RowX.drew Hrow.out)).stays hS5; have Hx1 := Lib.hid (show w5.ownsRow 0 25 9 _ 1 xs from hx1); have Hx2 := Lib.hid hx2; have Hx3 := Lib.hid hx3; have hown2 := Own.lo hx2; clear hx1 hx2 hx3) | (refine step_append_lies _ (by rfl) (.tmp 16) (.tmp 19) 23 (by rfl) 0 25 i0 _ 9 104 Tryz.underlying23 hi hz0 hz1 hz2 (by rfl) (by omega) (.slice p3 1 c3) 1 xs (by rfl) (Hx1.out.alloc _) ⟨w5.heap.size, 0, none⟩ 1 1 (nodeCells a5 (.slice p5 a5.kids.length c5)) (by rfl) (by rfl) (World.news_of_block (cs := (nodeCells a5 (.slice p5 a5.kids.length c5)).toArray) (t := 25) (fr := (0, 0)) (heap_alloc_new w5 _)) (node_ones _ _ _ _) (by omega) (by unfold maxLen; omega) (by omega) (by omega) (w5.heap.size + 1) (by simp) ?_; intro gA capA wA hownA hgrowA hatA hltA; have HownA := Lib.hid hownA; have HgrowA := Lib.hid hgrowA; have HatA := Lib.hid hatA; have z1' := Var.grown z1 hgrowA (hown2 _ (by omega)); clear z1 z1c z1f; have z1 := z1'; clear z1'; obtain ⟨z1c, z1f⟩ := obj_facts z1; have z1l := z1.lt; clear hownA hatA))
      all_goals (go_wp2_with fail; go_meet; exact ⟨a5, s5, _, _, Hr5.out, Under.grow (l := [a3]) rfl (fun _ _ => rfl) HR.out HS.out hlt (Nat.le_refl _) (by omega) (by simp; omega) (by simpa using hs5) z0 z1 Hx1.out Hx2.out Hx3.out Hw5.out HownA.out HgrowA.out HatA.out⟩)
    case rest =>
      obtain ⟨a6, s6, p6, c6, hr6, hu6⟩ := hcut
      obtain ⟨w6, hw6⟩ : ∃ w6, w6 = wc := ⟨_, rfl⟩
      subst hw6
      have HX := Lib.hid (HX.out.trans (Res.bind_of_ok hr6 _))
      have HR := Lib.hid hu6.rd
      have HS := Lib.hid hu6.stays
      have Hrow := Lib.hid hu6.row
      have z0 := hu6.v0
      have z1 := hu6.v1
      unfold zero9 at z0
      unfold cells9 at z1
      clear hu6 hr6
      obtain ⟨z0c, z0f⟩ := obj_facts z0
      have z0l := z0.lt
      obtain ⟨z1c, z1f⟩ := obj_facts z1
      have z1l := z1.lt
      go_wp2_with fail
      refine (expect_any (HR.out.locals (by (exact Locals.au))) [44] (by decide)).mono ?_
      intro e7 w7 hm7
      refine hm7.cases ?_ ?_
      rotate_left
      focus (intro db sb hrb heb hRb hSb; subst heb; go_wp2_with fail; ((try simp only [Exit.inBlock, Exit.then]); refine post_panic rfl ?_); exact Says.bad (HX.out.trans (Res.bind_of_bad hrb _)) (Stays.trans (a := w) (by (exact Stays.au)) hSb) hRb)
      intro a7 s7 v7 hr7 he7 hv7 hR7 hS7
      subst he7
      have HX := Lib.hid (HX.out.trans (Res.bind_of_ok hr7 _))
      have HR := Lib.hid hR7
      have HS := Lib.hid (Stays.trans (a := w) (by (exact Stays.au)) hS7)
      have Hr7 := Lib.hid hr7
      have hs7 := hS7.size
      (try simp at hs7)
      clear hm7 hr7 hR7
      obtain rfl := hv7
      have z0' : Var 25 w7 w.heap.size _ := Var.stays (by (exact Var.au)) hS7
      clear z0 z0c z0f
      have z0 := z0'
      clear z0'
      have z0l := z0.lt
      obtain ⟨z0c, z0f⟩ := obj_facts z0
      have z1' : Var 25 w7 w1.heap.size _ := Var.stays (by (exact Var.au)) hS7
      clear z1 z1c z1f
      have z1 := z1'
      clear z1'
      have z1l := z1.lt
      obtain ⟨z1c, z1f⟩ := obj_facts z1
      have Hrow := Lib.hid (Hrow.out.stays hS7)
      go_upto_region 6 with (fail)
      go_cut [] (fun wx => ∃ t s2 a cap, Px.expr E s7 = .ok t s2 ∧ Under B E g w w.heap.size w1.heap.size zero9 (cells9 (T.of 23 (Px.offOf E s) [])) [a3, a6, t] 3 s2 a cap wx)
      case first =>
        go_wp2_with fail
        go_region_law (first | (go_simp; go_at_call 61; refine (expr_any (HR.out.locals (by (repeat (first | with_reducible exact HL.out | with_reducible refine Locals.alloc ?_ _ | with_reducible refine Locals.drew ?_ | (with_reducible refine Locals.setRowN ?_ ?_ ?_ _; rotate_left; (focus ((repeat (first | with_reducible exact HasV.new _ _ _ | with_reducible refine HasV.setRow ?_ _ _ | with_reducible refine HasV.alloc ?_ _ | with_reducible exact HasV.of (by assumption))); done)); (focus (first | with_reducible exact Nat.le_refl _ | with_reducible assumption | omega | (simp; omega)))) | with_reducible exact Locals.refl _ _))))).mono ?_; intro e8 w8 hm8; refine hm8.cases ?_ ?_; rotate_left; (focus (intro db sb hrb heb hRb hSb; subst heb; refine post_panic rfl ?_; exact Says.bad (HX.out.trans (Res.bind_of_bad hrb _)) (Stays.trans (a := w) (by (repeat (first | with_reducible exact HS.out | with_reducible refine Stays.alloc ?_ _ | with_reducible refine Stays.drew ?_ | (with_reducible refine Stays.setRow ?_ ?_ _; rotate_left; (focus (first | with_reducible exact Nat.le_refl _ | with_reducible assumption | omega | (simp; omega)))) | with_reducible exact Stays.refl _ _ _))) hSb) hRb)); intro a8 s8 v8 hr8 he8 hv8 hR8 hS8; subst he8; have HX := Lib.hid (HX.out.trans (Res.bind_of_ok hr8 _)); have HR := Lib.hid hR8; have HS := Lib.hid (Stays.trans (a := w) (by (repeat (first | with_reducible exact HS.out | with_reducible refine Stays.alloc ?_ _ | with_reducible refine Stays.drew ?_ | (with_reducible refine Stays.setRow ?_ ?_ _; rotate_left; (focus (first | with_reducible exact Nat.le_refl _ | with_reducible assumption | omega | (simp; omega)))) | with_reducible exact Stays.refl _ _ _))) hS8); have Hr8 := Lib.hid hr8; have hs8 := hS8.size; (try simp at hs8); clear hm8 hr8 hR8; obtain ⟨p8, c8, rfl, hw8⟩ := hv8; have Hw8 := Lib.hid hw8.lt; clear hw8; unfold nodeVal; have z0' : Var 25 w8 w.heap.size _ := Var.stays (by (focus ((repeat (first | with_reducible assumption | with_reducible exact Var.new _ _ _ | (with_reducible refine Var.row_new ?_ _; (focus ((repeat (first | with_reducible exact HasV.new _ _ _ | with_reducible refine HasV.setRow ?_ _ _ | with_reducible refine HasV.alloc ?_ _ | with_reducible exact HasV.of (by assumption))); done))) | with_reducible apply Var.drew | with_reducible apply Var.row_other | with_reducible apply Var.alloc | omega | (simp; omega))); done))) hS8; clear z0 z0c z0f; have z0 := z0'; clear z0'; have z0l := z0.lt; obtain ⟨z0c, z0f⟩ := obj_facts z0; have z1' : Var 25 w8 w1.heap.size _ := Var.stays (by (focus ((repeat (first | with_reducible assumption | with_reducible exact Var.new _ _ _ | (with_reducible refine Var.row_new ?_ _; (focus ((repeat (first | with_reducible exact HasV.new _ _ _ | with_reducible refine HasV.setRow ?_ _ _ | with_reducible refine HasV.alloc ?_ _ | with_reducible exact HasV.of (by assumption))); done))) | with_reducible apply Var.drew | with_reducible apply Var.row_other | with_reducible apply Var.alloc | omega | (simp; omega))); done))) hS8; clear z1 z1c z1f z1l; have z1 := z1'; clear z1'; have z1l := z1.lt; obtain ⟨z1c, z1f⟩ := obj_facts z1; obtain ⟨xs, hx1, hx2, hx3⟩ := (RowX.lt (RowX.drew Hrow.out)).stays hS8; have Hx1 := Lib.hid (show w8.ownsRow 0 25 9 _ 2 xs from hx1); have Hx2 := Lib.hid hx2; have Hx3 := Lib.hid hx3; have hown2 := Own.lo hx2; clear hx1 hx2 hx3) | (refine step_append_lies _ (by rfl) (.tmp 25) (.tmp 28) 23 (by rfl) 0 25 i0 _ 9 104 Tryz.underlying23 hi hz0 hz1 hz2 (by rfl) (by omega) (.slice p6 2 c6) 2 xs (by rfl) (Hx1.out.alloc _) ⟨w8.heap.size, 0, none⟩ 1 1 (nodeCells a8 (.slice p8 a8.kids.length c8)) (by rfl) (by rfl) (World.news_of_block (cs := (nodeCells a8 (.slice p8 a8.kids.length c8)).toArray) (t := 25) (fr := (0, 0)) (heap_alloc_new w8 _)) (node_ones _ _ _ _) (by omega) (by unfold maxLen; omega) (by omega) (by omega) (w8.heap.size + 1) (by simp) ?_; intro gA capA wA hownA hgrowA hatA hltA; have HownA := Lib.hid hownA; have HgrowA := Lib.hid hgrowA; have HatA := Lib.hid hatA; have z1' := Var.grown z1 hgrowA (hown2 _ (by omega)); clear z1 z1c z1f; have z1 := z1'; clear z1'; obtain ⟨z1c, z1f⟩ := obj_facts z1; have z1l := z1.lt; clear hownA hatA))
        all_goals (go_wp2_with fail; go_meet; exact ⟨a8, s8, _, _, Hr8.out, Under.grow (l := [a3, a6]) rfl (fun _ _ => rfl) HR.out HS.out hlt (Nat.le_refl _) (by omega) (by simp; omega) (by simpa using hs8) z0 z1 Hx1.out Hx2.out Hx3.out Hw8.out HownA.out HgrowA.out HatA.out⟩)
      case rest =>
        obtain ⟨a9, s9, p9, c9, hr9, hu9⟩ := hcut
        obtain ⟨w9, hw9⟩ : ∃ w9, w9 = wc := ⟨_, rfl⟩
        subst hw9
        have HX := Lib.hid (HX.out.trans (Res.bind_of_ok hr9 _))
        have HR := Lib.hid hu9.rd
        have HS := Lib.hid hu9.stays
        have Hrow := Lib.hid hu9.row
        have z0 := hu9.v0
        have z1 := hu9.v1
        unfold zero9 at z0
        unfold cells9 at z1
        clear hu9 hr9
        obtain ⟨z0c, z0f⟩ := obj_facts z0
        have z0l := z0.lt
        obtain ⟨z1c, z1f⟩ := obj_facts z1
        have z1l := z1.lt
        go_wp2_with fail
        refine (expect_any (HR.out.locals (by (exact Locals.au))) [105, 110, 116, 111] (by decide)).mono ?_
        intro e10 w10 hm10
        refine hm10.cases ?_ ?_
        rotate_left
        focus (intro db sb hrb heb hRb hSb; subst heb; go_wp2_with fail; ((try simp only [Exit.inBlock, Exit.then]); refine post_panic rfl ?_); exact Says.bad (HX.out.trans (Res.bind_of_bad hrb _)) (Stays.trans (a := w) (by (exact Stays.au)) hSb) hRb)
        intro a10 s10 v10 hr10 he10 hv10 hR10 hS10
        subst he10
        have HX := Lib.hid (HX.out.trans (Res.bind_of_ok hr10 _))
        have HR := Lib.hid hR10
        have HS := Lib.hid (Stays.trans (a := w) (by (exact Stays.au)) hS10)
        have Hr10 := Lib.hid hr10
        have hs10 := hS10.size
        (try simp at hs10)
        clear hm10 hr10 hR10
        obtain rfl := hv10
        have z0' : Var 25 w10 w.heap.size _ := Var.stays (by (exact Var.au)) hS10
        clear z0 z0c z0f
        have z0 := z0'
        clear z0'
        have z0l := z0.lt
        obtain ⟨z0c, z0f⟩ := obj_facts z0
        have z1' : Var 25 w10 w1.heap.size _ := Var.stays (by (exact Var.au)) hS10
        clear z1 z1c z1f
        have z1 := z1'
        clear z1'
        have z1l := z1.lt
        obtain ⟨z1c, z1f⟩ := obj_facts z1
        have Hrow := Lib.hid (Hrow.out.stays hS10)
        go_upto_region 8 with (fail)
        go_cut [] (fun wx => ∃ l s2 a cap, R = ((Px.expect E [59] s2).bind fun _ s3 => .ok (T.of 23 (Px.offOf E s) l) s3) ∧ Under B E g w w.heap.size w1.heap.size zero9 (cells9 (T.of 23 (Px.offOf E s) [])) l l.length s2 a cap wx)
        case first =>
          go_wp2_with fail
          go_region_law (first | (go_simp; go_at_call 165; refine (ref_any (HR.out.locals (by (repeat (first | with_reducible exact HL.out | with_reducible refine Locals.alloc ?_ _ | with_reducible refine Locals.drew ?_ | (with_reducible refine Locals.setRowN ?_ ?_ ?_ _; rotate_left; (focus ((repeat (first | with_reducible exact HasV.new _ _ _ | with_reducible refine HasV.setRow ?_ _ _ | with_reducible refine HasV.alloc ?_ _ | with_reducible exact HasV.of (by assumption))); done)); (focus (first | with_reducible exact Nat.le_refl _ | with_reducible assumption | omega | (simp; omega)))) | with_reducible exact Locals.refl _ _))))).mono ?_; intro e11 w11 hm11; refine hm11.cases ?_ ?_; rotate_left; (focus (intro db sb hrb heb hRb hSb; subst heb; refine post_panic rfl ?_; exact Says.bad (HX.out.trans (Res.bind_of_bad hrb _)) (Stays.trans (a := w) (by (repeat (first | with_reducible exact HS.out | with_reducible refine Stays.alloc ?_ _ | with_reducible refine Stays.drew ?_ | (with_reducible refine Stays.setRow ?_ ?_ _; rotate_left; (focus (first | with_reducible exact Nat.le_refl _ | with_reducible assumption | omega | (simp; omega)))) | with_reducible exact Stays.refl _ _ _))) hSb) hRb)); intro a11 s11 v11 hr11 he11 hv11 hR11 hS11; subst he11; have HX := Lib.hid (HX.out.trans (Res.bind_of_ok hr11 _)); have HR := Lib.hid hR11; have HS := Lib.hid (Stays.trans (a := w) (by (repeat (first | with_reducible exact HS.out | with_reducible refine Stays.alloc ?_ _ | with_reducible refine Stays.drew ?_ | (with_reducible refine Stays.setRow ?_ ?_ _; rotate_left; (focus (first | with_reducible exact Nat.le_refl _ | with_reducible assumption | omega | (simp; omega)))) | with_reducible exact Stays.refl _ _ _))) hS11); have Hr11 := Lib.hid hr11; have hs11 := hS11.size; (try simp at hs11); clear hm11 hr11 hR11; obtain ⟨p11, c11, rfl, hw11⟩ := hv11; have Hw11 := Lib.hid hw11.lt; clear hw11; unfold nodeVal; have z0' : Var 25 w11 w.heap.size _ := Var.stays (by (focus ((repeat (first | with_reducible assumption | with_reducible exact Var.new _ _ _ | (with_reducible refine Var.row_new ?_ _; (focus ((repeat (first | with_reducible exact HasV.new _ _ _ | with_reducible refine HasV.setRow ?_ _ _ | with_reducible refine HasV.alloc ?_ _ | with_reducible exact HasV.of (by assumption))); done))) | with_reducible apply Var.drew | with_reducible apply Var.row_other | with_reducible apply Var.alloc | omega | (simp; omega))); done))) hS11; clear z0 z0c z0f; have z0 := z0'; clear z0'; have z0l := z0.lt; obtain ⟨z0c, z0f⟩ := obj_facts z0; have z1' : Var 25 w11 w1.heap.size _ := Var.stays (by (focus ((repeat (first | with_reducible assumption | with_reducible exact Var.new _ _ _ | (with_reducible refine Var.row_new ?_ _; (focus ((repeat (first | with_reducible exact HasV.new _ _ _ | with_reducible refine HasV.setRow ?_ _ _ | with_reducible refine HasV.alloc ?_ _ | with_reducible exact HasV.of (by assumption))); done))) | with_reducible apply Var.drew | with_reducible apply Var.row_other | with_reducible apply Var.alloc | omega | (simp; omega))); done))) hS11; clear z1 z1c z1f z1l; have z1 := z1'; clear z1'; have z1l := z1.lt; obtain ⟨z1c, z1f⟩ := obj_facts z1; obtain ⟨xs, hx1, hx2, hx3⟩ := (RowX.lt (RowX.drew Hrow.out)).stays hS11; have Hx1 := Lib.hid (show w11.ownsRow 0 25 9 _ 3 xs from hx1); have Hx2 := Lib.hid hx2; have Hx3 := Lib.hid hx3; have hown2 := Own.lo hx2; clear hx1 hx2 hx3) | ((refine step_append_lies _ (by rfl) (.tmp 35) (.tmp 38) 23 (by rfl) 0 25 i0 _ 9 104 Tryz.underlying23 hi hz0 hz1 hz2 (by rfl) (by omega) (.slice p9 3 c9) 3 xs (by rfl) (Hx1.out.alloc _) ⟨w11.heap.size, 0, none⟩ 1 1 (nodeCells a11 (.slice p11 a11.kids.length c11)) (by rfl) (by rfl) (World.news_of_block (cs := (nodeCells a11 (.slice p11 a11.kids.length c11)).toArray) (t := 25) (fr := (0, 0)) (heap_alloc_new w11 _)) (node_ones _ _ _ _) (by omega) (by unfold maxLen; omega) (by omega) (by omega) (w11.heap.size + 1) (by simp) ?_; intro gA capA wA hownA hgrowA hatA hltA; have HownA := Lib.hid hownA; have HgrowA := Lib.hid hgrowA; have HatA := Lib.hid hatA; have z1' := Var.grown z1 hgrowA (hown2 _ (by omega)); clear z1 z1c z1f; have z1 := z1'; clear z1'; obtain ⟨z1c, z1f⟩ := obj_facts z1; have z1l := z1.lt; clear hownA hatA); have hA := grow_row (l := [a3, a6, a9]) rfl HR.out HS.out hlt (Nat.le_refl _) (by omega) (by simp; omega) (by simpa using hs11) z0 Hx1.out Hx2.out Hx3.out Hw11.out HownA.out HgrowA.out HatA.out; have hsA := hgrowA.size; (try simp at hsA)) | (go_simp; go_at_call 194; refine (with_rd (lo := w1.heap.size + 1) hA.1.1 (l := [a3, a6, a9, a11]) hA.2.2 (by omega) (by omega) (by simp)).mono ?_; intro e12 w12 hm12; refine hm12.cases ?_ ?_; rotate_left; (focus (intro db sb hrb heb hRb hSb; subst heb; refine post_panic rfl ?_; exact Says.bad (HX.out.trans (Res.bind_of_bad hrb _)) (Stays.trans_new (x := none) (a := w) hA.1.2 hSb (fun i hi => by have := hA.2.2.row.own i hi; omega)) hRb)); intro l12 s12 a12 c12 hr12 he12 hw12 hx12 hR12 hS12; subst he12; have HX := Lib.hid (HX.out.trans (Res.bind_of_ok hr12 _)); have HR := Lib.hid hR12; have HS := Lib.hid (Stays.trans_new (x := none) (a := w) hA.1.2 hS12 (fun i hi => by have := hA.2.2.row.own i hi; omega)); have hs12 := hS12.size; have Hw12 := Lib.hid hw12; have z0' := Var.staysO hA.2.1 hS12 (fun e => by have := hA.2.2.row.own _ e; omega); have z1' := Var.staysO z1 hS12 (fun e => by have := hA.2.2.row.own _ e; omega); clear z0 z0c z0f z1 z1c z1f; have z0 := z0'; have z1 := z1'; clear z0' z1'; obtain ⟨z0c, z0f⟩ := obj_facts z0; obtain ⟨z1c, z1f⟩ := obj_facts z1; have z0l := z0.lt; have z1l := z1.lt))
          all_goals (go_wp2_with fail; go_meet; exact ⟨l12, s12, _, _, HX.out, Under.put (fun _ _ => rfl) HR.out HS.out hlt (Nat.le_refl _) (by omega) z0 z1 Hw12.out⟩)
        case rest =>
          obtain ⟨a13, s13, p13, c13, hX13, hu13⟩ := hcut
          obtain ⟨w13, hw13⟩ : ∃ w13, w13 = wc := ⟨_, rfl⟩
          subst hw13
          have HX := Lib.hid hX13
          have HR := Lib.hid hu13.rd
          have HS := Lib.hid hu13.stays
          have Hw13 := Lib.hid hu13.row.row.lt
          have z0 := hu13.v0
          have z1 := hu13.v1
          unfold zero9 at z0
          unfold cells9 at z1
          clear hu13 hX13
          obtain ⟨z0c, z0f⟩ := obj_facts z0
          have z0l := z0.lt
          obtain ⟨z1c, z1f⟩ := obj_facts z1
          have z1l := z1.lt
          go_wp2_with fail
          refine (expect_any (HR.out.locals (by (exact Locals.au))) [59] (by decide)).mono ?_
          intro e14 w14 hm14
          refine hm14.cases ?_ ?_
          rotate_left
          focus (intro db sb hrb heb hRb hSb; subst heb; go_wp2_with fail; ((try simp only [Exit.inBlock, Exit.then]); refine post_panic rfl ?_); exact Says.bad (HX.out.trans (Res.bind_of_bad hrb _)) (Stays.trans (a := w) (by (exact Stays.au)) hSb) hRb)
          intro a14 s14 v14 hr14 he14 hv14 hR14 hS14
          subst he14
          have HX := Lib.hid (HX.out.trans (Res.bind_of_ok hr14 _))
          have HR := Lib.hid hR14
          have HS := Lib.hid (Stays.trans (a := w) (by (exact Stays.au)) hS14)
          have Hr14 := Lib.hid hr14
          have hs14 := hS14.size
          (try simp at hs14)
          clear hm14 hr14 hR14
          obtain rfl := hv14
          have z0' : Var 25 w14 w.heap.size _ := Var.stays (by (exact Var.au)) hS14
          clear z0 z0c z0f
          have z0 := z0'
          clear z0'
          have z0l := z0.lt
          obtain ⟨z0c, z0f⟩ := obj_facts z0
          have z1' : Var 25 w14 w1.heap.size _ := Var.stays (by (exact Var.au)) hS14
          clear z1 z1c z1f
          have z1 := z1'
          clear z1'
          have z1l := z1.lt
          obtain ⟨z1c, z1f⟩ := obj_facts z1
          have Hw13 := Lib.hid (Row.stays (by (have QQ := Hw13; exact Row.au)) hS14)
          go_wp2_with fail
          (rw [storeN]; rotate_left; (exact HasN.au))
          ((try simp only [Exit.inBlock, Exit.then]); refine ret_node (by rfl) (by rfl) (by (exact Var.au)) (by first | rfl | simp) (by rfl) ?_)
          refine Says.ok HX.out (by (exact Stays.au)) ⟨_, _, rfl, (show Row _ _ a13 (.slice p13 a13.length c13) from Row.mono (by (have QQ := Hw13; exact Row.au)) ?_)⟩ (HR.out.locals ?_)
          · intro b hb; (try simp at hb); omega
          · (exact Locals.au)
end Go.Proofs.YtbgpboiblggmiaaGreatDoor

/-
  Walks over proc.
-/
namespace Go.Proofs.YtbgpboiblggmiaaGreatDoor
open Go.RowKit
open Px (St T D Res left Takes)

theorem Px.sepGo_len {E : Nat} {part : St → Res T} (hp : ∀ s, Px.Suf (part s) s) : ∀ (k : Nat) (l : List T) (s : St) (l2 : List T) (s2 : St), Px.sepGo E part k l s = .ok l2 s2 → l2.length + left s2 ≤ l.length + left s
  | 0, l, s, l2, s2, h => by rw [Px.sepGo] at h; cases h; exact Nat.le_refl _
  | k + 1, l, s, l2, s2, h => by
    rw [Px.sepGo] at h
    cases hac : Px.accepts E [44] s
    · rw [hac] at h; simp only [Bool.false_eq_true, if_false] at h; cases h; exact Nat.le_refl _
    · rw [hac] at h
      simp only [if_true] at h
      obtain ⟨t, s1, h1, h2⟩ := Px.bind_inv h
      have a1 := Px.acc_left hac (by decide)
      have a2 := Px.suf_left (hp _) h1
      have a3 := sepGo_len hp k _ _ _ _ h2
      simp at a3
      omega
theorem Px.tuple_len {E : Nat} {part : St → Res T} (hp : ∀ s, Px.Suf (part s) s) {s s2 : St} {l : List T} (h : Px.tuple E part s = .ok l s2) : l.length ≤ left s + 1 := by
  unfold Px.tuple at h
  obtain ⟨_, s1, h1, h⟩ := Px.bind_inv h
  have a1 := Px.suf_left (Px.suf_expect _ _) h1
  split at h
  · cases h; simp
  · obtain ⟨l3, s3, h2, h⟩ := Px.bind_inv h
    obtain ⟨_, s4, h3, h⟩ := Px.bind_inv h
    cases h
    unfold Px.separated at h2
    obtain ⟨t, s5, h4, h5⟩ := Px.bind_inv h2
    have a2 := Px.suf_left (hp _) h4
    have a3 := Px.sepGo_len hp _ _ _ _ _ h5
    simp at a3
    omega

theorem Under.len {B E g : Nat} {w : World} {b0 b1 : Nat} {c0 : Array Value} {c1 : Value → Array Value} {l : List T} {n : Nat} {s : St} {a : Option Addr} {cap : Nat} {wx : World} (h : Under B E g w b0 b1 c0 c1 l n s a cap wx) (e : n = l.length) : Under B E g w b0 b1 c0 c1 l l.length s a cap wx := by
  subst e
  exact h
theorem put_all {B E g : Nat} {w0 w : World} {s : St} {b b0 : Nat} {cs c0 : Array Value} {S : Nat → Prop} {l : List T} {kv : Value} (z : Var 25 w b cs) (z0 : Var 25 w b0 c0) (hR : RdAt B E g w s) (hS : Stays B none w0 w) (hrow : RowX S w l kv)
    (h : b0 ≠ b) (hb : ¬ S b) (hg : g < b) (h0 : w0.heap.size ≤ b) (i : Nat) (v : Value) :
    ∃ w8, w.setRow b (cs.setIfInBounds i v) = w8 ∧ Var 25 w8 b (cs.setIfInBounds i v) ∧ Var 25 w8 b0 c0 ∧ RdAt B E g w8 s ∧ Stays B none w0 w8 ∧ RowX S w8 l kv ∧ w8.heap.size = w.heap.size :=
  ⟨_, rfl, Var.row_new (HasV.of z) _, z0.row_other h _, hR.locals ((Locals.refl _ _).setRowN (HasV.of z) hg _), hS.setRow h0 _, hrow.setRow hb _, by simp⟩

set_option maxRecDepth 100000 in
set_option maxHeartbeats 2000000 in
theorem proc_rd {B E g : Nat} {w : World} {s : St} (h : RdAt B E g w s) (hst : ∀ w' s', RdAt B E g w' s' → Calls Tryz.prog 167 #[.pointer (some ⟨g, 0, none⟩)] w' (Says B E g w' (encT w'.heap.size) (Px.stmt E s'))) {t : Lx.Tok} {r : List Lx.Tok} (ht : s.toks = t :: r) :
    Calls Tryz.prog 137 #[.pointer (some ⟨g, 0, none⟩)] w (Says B E g w (encT w.heap.size) (Px.proc E s)) := by
  obtain ⟨i0, hi, hz0, hz1, hz2⟩ := info_parts infoNode
  have Ht := Lib.hid ht
  clear ht
  have hmf : ∀ (fn : Fn) (first cap : Array Value) (w : World), (Instr.makeFunc fn first cap).run Tryz.prog w = .ok (.func fn first cap) w := fun _ _ _ _ => rfl
  have hlt := h.lt
  have hB := h.le
  have HR := Lib.hid h
  have HS := Lib.hid (Stays.refl B none w)
  clear h
  obtain ⟨R, hR⟩ : ∃ R, R = Px.proc E s := ⟨_, rfl⟩
  rw [← hR]
  unfold Px.proc at hR
  have HX := Lib.hid hR
  clear hR
  go_enter Tryz.func137, Tryz.ntmps137
  go_wp2_with fail
  refine (begin_rd (HR.out.locals (by (exact Locals.au))) 57 Ht.out).mono ?_
  rintro e1 w1 ⟨rfl, hS1, hR1⟩
  unfold nodeVal
  have HR := Lib.hid hR1
  have HS := Lib.hid (Stays.trans (a := w) (by (exact Stays.au)) hS1)
  have hs1 := hS1.size
  (try simp at hs1)
  clear hR1
  have z0 : Var 25 w1 w.heap.size _ := Var.stays (by (exact Var.au)) hS1
  have z0l := z0.lt
  obtain ⟨z0c, z0f⟩ := obj_facts z0
  go_wp2_with fail
  refine (name_rd (HR.out.locals (by (exact Locals.au)))).mono ?_
  intro e2 w2 hm2
  refine hm2.cases ?_ ?_
  rotate_left
  focus (intro db sb hrb heb hRb hSb; subst heb; go_wp2_with fail; ((try simp only [Exit.inBlock, Exit.then]); refine post_panic rfl ?_); exact Says.bad (HX.out.trans (Res.bind_of_bad hrb _)) (Stays.trans (a := w) (by (exact Stays.au)) hSb) hRb)
  intro a2 s2 v2 hr2 he2 hv2 hR2 hS2
  subst he2
  have HX := Lib.hid (HX.out.trans (Res.bind_of_ok hr2 _))
  have HR := Lib.hid hR2
  have HS := Lib.hid (Stays.trans (a := w) (by (exact Stays.au)) hS2)
  have Hr2 := Lib.hid hr2
  have hs2 := hS2.size
  (try simp at hs2)
  clear hm2 hr2 hR2
  obtain rfl := hv2
  have z0' : Var 25 w2 w.heap.size _ := Var.stays (by (exact Var.au)) hS2
  clear z0 z0c z0f
  have z0 := z0'
  clear z0'
  have z0l := z0.lt
  obtain ⟨z0c, z0f⟩ := obj_facts z0
  have z1 : Var 25 w2 w1.heap.size _ := Var.stays (by (exact Var.au)) hS2
  have z1l := z1.lt
  obtain ⟨z1c, z1f⟩ := obj_facts z1
  go_wp2_with fail
  rw [storeF z1]
  have Hl2 := Lib.hid HR.out.ok.len
  go_wp2_with fail
  refine (tuple_rd (HR.out.locals (by (exact Locals.au))) 154 (fun _ _ => by simp [go_sem]) (Px.param E) Px.suf_param (fun _ _ h => param_rd h)).mono ?_
  intro e3 w3 hm3
  refine hm3.cases ?_ ?_
  rotate_left
  focus (intro db sb hrb heb hRb hSb; subst heb; go_wp2_with fail; ((try simp only [Exit.inBlock, Exit.then]); refine post_panic rfl ?_); exact Says.bad (HX.out.trans (Res.bind_of_bad hrb _)) (Stays.trans (a := w) (by (exact Stays.au)) hSb) hRb)
  intro a3 s3 v3 hr3 he3 hv3 hR3 hS3
  subst he3
  have HX := Lib.hid (HX.out.trans (Res.bind_of_ok hr3 _))
  have HR := Lib.hid hR3
  have HS := Lib.hid (Stays.trans (a := w) (by (exact Stays.au)) hS3)
  have Hr3 := Lib.hid hr3
  have hs3 := hS3.size
  (try simp at hs3)
  clear hm3 hr3 hR3
  obtain ⟨p3, c3, rfl, hw3⟩ := hv3
  have hlen : a3.length ≤ 1501 := by have := Px.tuple_len Px.suf_param Hr3.out; have := Hl2.out; unfold Px.left at *; omega
  have Hrow := Lib.hid (RowX.mono (S' := fun b => w1.heap.size + 1 ≤ b) hw3 (fun b hb => by simp at hb; omega))
  clear hw3
  have z0' : Var 25 w3 w.heap.size _ := Var.stays (by (exact Var.au)) hS3
  clear z0 z0c z0f
  have z0 := z0'
  clear z0'
  have z0l := z0.lt
  obtain ⟨z0c, z0f⟩ := obj_facts z0
  have z1' : Var 25 w3 w1.heap.size _ := Var.stays (by (exact Var.au)) hS3
  clear z1 z1c z1f
  have z1 := z1'
  clear z1'
  have z1l := z1.lt
  obtain ⟨z1c, z1f⟩ := obj_facts z1
  go_wp2_with fail
  rw [storeF z1]
  go_wp2_with fail
  refine (accept_any (HR.out.locals (by (exact Locals.au))) [108, 111, 99, 107, 101, 100] (by decide)).mono ?_
  rintro e4 w4 ⟨rfl, hS4, hR4⟩
  have HR := Lib.hid hR4
  have HS := Lib.hid (Stays.trans (a := w) (by (exact Stays.au)) hS4)
  have hs4 := hS4.size
  (try simp at hs4)
  clear hR4
  have z0' : Var 25 w4 w.heap.size _ := Var.stays (by (exact Var.au)) hS4
  clear z0 z0c z0f
  have z0 := z0'
  clear z0'
  have z0l := z0.lt
  obtain ⟨z0c, z0f⟩ := obj_facts z0
  have z1' : Var 25 w4 w1.heap.size _ := Var.stays (by (exact Var.au)) hS4
  clear z1 z1c z1f
  have z1 := z1'
  clear z1'
  have z1l := z1.lt
  obtain ⟨z1c, z1f⟩ := obj_facts z1
  have Hrow := Lib.hid (RowX.stays (RowX.setRow Hrow.out (g := w1.heap.size) (by omega) _) hS4)
  cases hac : Px.accepts E [108, 111, 99, 107, 101, 100] s3
  · have HR := Lib.hid (show RdAt B E g w4 s3 by have := HR.out; unfold Px.accepted at this; rw [if_neg (by rw [hac]; decide)] at this; exact this)
    have HX := Lib.hid (HX.out.trans (congrArg (fun r => Res.bind r _) (if_neg (by rw [hac]; decide))))
    have HX := Lib.hid (show R = (Px.block E (Px.stmt E) s3).bind fun b s4 => .ok (.mk 57 a2 [] 0 0 0 false (a3 ++ [b]) (Px.offOf E s)) s4 from HX.out)
    clear hac
    go_upto_region 6 with (fail)
    go_cut [] (fun wx => ∃ l s2 a cap, R = .ok (.mk 57 a2 [] 0 0 0 false l (Px.offOf E s)) s2 ∧ Under B E g w w.heap.size w1.heap.size zero9 (cells9 (.mk 57 a2 [] 0 0 0 false [] (Px.offOf E s))) l l.length s2 a cap wx)
    case first =>
      go_wp2_with fail
      go_region_law (first | (go_simp; go_at_call 155; refine (block_rd (HR.out.locals (by (repeat (first | with_reducible exact HL.out | with_reducible refine Locals.alloc ?_ _ | with_reducible refine Locals.drew ?_ | (with_reducible refine Locals.setRowN ?_ ?_ ?_ _; rotate_left; (focus ((repeat (first | with_reducible exact HasV.new _ _ _ | with_reducible refine HasV.setRow ?_ _ _ | with_reducible refine HasV.alloc ?_ _ | with_reducible exact HasV.of (by assumption))); done)); (focus (first | with_reducible exact Nat.le_refl _ | with_reducible assumption | omega | (simp; omega)))) | with_reducible exact Locals.refl _ _)))) (N := left s3) (Px.stmt E) Px.takes_stmt (fun w s h _ => hst w s h) (Nat.le_succ _)).mono ?_; intro e6 w6 hm6; refine hm6.cases ?_ ?_; rotate_left; (focus (intro db sb hrb heb hRb hSb; subst heb; refine post_panic rfl ?_; exact Says.bad (HX.out.trans (Res.bind_of_bad hrb _)) (Stays.trans (a := w) (by (repeat (first | with_reducible exact HS.out | with_reducible refine Stays.alloc ?_ _ | with_reducible refine Stays.drew ?_ | (with_reducible refine Stays.setRow ?_ ?_ _; rotate_left; (focus (first | with_reducible exact Nat.le_refl _ | with_reducible assumption | omega | (simp; omega)))) | with_reducible exact Stays.refl _ _ _))) hSb) hRb)); intro a6 s6 v6 hr6 he6 hv6 hR6 hS6; subst he6; have HX := Lib.hid (HX.out.trans (Res.bind_of_ok hr6 _)); have HR := Lib.hid hR6; have HS := Lib.hid (Stays.trans (a := w) (by (repeat (first | with_reducible exact HS.out | with_reducible refine Stays.alloc ?_ _ | with_reducible refine Stays.drew ?_ | (with_reducible refine Stays.setRow ?_ ?_ _; rotate_left; (focus (first | with_reducible exact Nat.le_refl _ | with_reducible assumption | omega | (simp; omega)))) | with_reducible exact Stays.refl _ _ _))) hS6); have Hr6 := Lib.hid hr6; have hs6 := hS6.size; (try simp at hs6); clear hm6 hr6 hR6; obtain ⟨p6, c6, rfl, hw6⟩ := hv6; have Hw6 := Lib.hid hw6.lt; clear hw6; unfold nodeVal; have z0' : Var 25 w6 w.heap.size _ := Var.stays (by (focus ((repeat (first | with_reducible assumption | with_reducible exact Var.new _ _ _ | (with_reducible refine Var.row_new ?_ _; (focus ((repeat (first | with_reducible exact HasV.new _ _ _ | with_reducible refine HasV.setRow ?_ _ _ | with_reducible refine HasV.alloc ?_ _ | with_reducible exact HasV.of (by assumption))); done))) | with_reducible apply Var.drew | with_reducible apply Var.row_other | with_reducible apply Var.alloc | omega | (simp; omega))); done))) hS6; clear z0 z0c z0f; have z0 := z0'; clear z0'; have z0l := z0.lt; obtain ⟨z0c, z0f⟩ := obj_facts z0; have z1' : Var 25 w6 w1.heap.size _ := Var.stays (by (focus ((repeat (first | with_reducible assumption | with_reducible exact Var.new _ _ _ | (with_reducible refine Var.row_new ?_ _; (focus ((repeat (first | with_reducible exact HasV.new _ _ _ | with_reducible refine HasV.setRow ?_ _ _ | with_reducible refine HasV.alloc ?_ _ | with_reducible exact HasV.of (by assumption))); done))) | with_reducible apply Var.drew | with_reducible apply Var.row_other | with_reducible apply Var.alloc | omega | (simp; omega))); done))) hS6; clear z1 z1c z1f z1l; have z1 := z1'; clear z1'; have z1l := z1.lt; obtain ⟨z1c, z1f⟩ := obj_facts z1; obtain ⟨xs, hx1, hx2, hx3⟩ := (RowX.lt (RowX.drew Hrow.out)).stays hS6; have Hx1 := Lib.hid (show w6.ownsRow 0 25 9 _ a3.length xs from hx1); have Hx2 := Lib.hid hx2; have Hx3 := Lib.hid hx3; have hown2 := Own.lo hx2; clear hx1 hx2 hx3) | (refine step_append_lies _ (by rfl) (.tmp 20) (.tmp 23) 23 (by rfl) 0 25 i0 _ 9 104 Tryz.underlying23 hi hz0 hz1 hz2 (by rfl) (by omega) (.slice p3 a3.length c3) a3.length xs (by rfl) (Hx1.out.alloc _) ⟨w6.heap.size, 0, none⟩ 1 1 (nodeCells a6 (.slice p6 a6.kids.length c6)) (by rfl) (by rfl) (World.news_of_block (cs := (nodeCells a6 (.slice p6 a6.kids.length c6)).toArray) (t := 25) (fr := (0, 0)) (heap_alloc_new w6 _)) (node_ones _ _ _ _) (by omega) (by unfold maxLen; omega) (by omega) (by omega) (w6.heap.size + 1) (by simp) ?_; intro gA capA wA hownA hgrowA hatA hltA; have HownA := Lib.hid hownA; have HgrowA := Lib.hid hgrowA; have HatA := Lib.hid hatA; have z1' := Var.grown z1 hgrowA (hown2 _ (by omega)); clear z1 z1c z1f; have z1 := z1'; clear z1'; obtain ⟨z1c, z1f⟩ := obj_facts z1; have z1l := z1.lt; clear hownA hatA))
      all_goals (go_wp2_with fail; go_meet; exact ⟨a3 ++ [a6], s6, _, _, HX.out, Under.len (Under.grow (l := a3) rfl (fun _ _ => rfl) HR.out HS.out hlt (Nat.le_refl _) (by omega) (by simp; omega) (by simpa using hs6) z0 z1 Hx1.out Hx2.out Hx3.out Hw6.out HownA.out HgrowA.out HatA.out) (by simp)⟩)
    case rest =>
      obtain ⟨a7, s7, p7, c7, hX7, hu7⟩ := hcut
      obtain ⟨w7, hw7⟩ : ∃ w7, w7 = wc := ⟨_, rfl⟩
      subst hw7
      have HX := Lib.hid hX7
      have HR := Lib.hid hu7.rd
      have HS := Lib.hid hu7.stays
      have Hw7 := Lib.hid hu7.row.row.lt
      have z0 := hu7.v0
      have z1 := hu7.v1
      unfold zero9 at z0
      unfold cells9 at z1
      clear hu7 hX7
      obtain ⟨z0c, z0f⟩ := obj_facts z0
      have z0l := z0.lt
      obtain ⟨z1c, z1f⟩ := obj_facts z1
      have z1l := z1.lt
      go_wp2_with fail
      (rw [storeN]; rotate_left; (exact HasN.au))
      ((try simp only [Exit.inBlock, Exit.then]); refine ret_node (by rfl) (by rfl) (by (exact Var.au)) (by first | rfl | simp) (by rfl) ?_)
      refine Says.ok HX.out (by (exact Stays.au)) ⟨_, _, rfl, (show Row _ _ a7 (.slice p7 a7.length c7) from Row.mono (by (have QQ := Hw7; exact Row.au)) ?_)⟩ (HR.out.locals ?_)
      · intro b hb; (try simp at hb); omega
      · (exact Locals.au)
  · have HR := Lib.hid (show RdAt B E g w4 (Px.rest s3) by have := HR.out; unfold Px.accepted at this; rw [if_pos hac] at this; exact this)
    have HX := Lib.hid (HX.out.trans (congrArg (fun r => Res.bind r _) (if_pos hac)))
    have HX := Lib.hid (show R = (Px.name E (Px.rest s3)).bind fun y s3 => (Px.block E (Px.stmt E) s3).bind fun b s4 => .ok (.mk 57 a2 y 0 0 0 false (a3 ++ [b]) (Px.offOf E s)) s4 from HX.out)
    clear hac
    go_wp2_with fail
    refine (name_rd (HR.out.locals (by (exact Locals.au)))).mono ?_
    intro e5 w5 hm5
    refine hm5.cases ?_ ?_
    rotate_left
    focus (intro db sb hrb heb hRb hSb; subst heb; go_wp2_with fail; ((try simp only [Exit.inBlock, Exit.then]); refine post_panic rfl ?_); exact Says.bad (HX.out.trans (Res.bind_of_bad hrb _)) (Stays.trans (a := w) (by (exact Stays.au)) hSb) hRb)
    intro a5 s5 v5 hr5 he5 hv5 hR5 hS5
    subst he5
    have HX := Lib.hid (HX.out.trans (Res.bind_of_ok hr5 _))
    have HR := Lib.hid hR5
    have HS := Lib.hid (Stays.trans (a := w) (by (exact Stays.au)) hS5)
    have Hr5 := Lib.hid hr5
    have hs5 := hS5.size
    (try simp at hs5)
    clear hm5 hr5 hR5
    obtain rfl := hv5
    have z0' : Var 25 w5 w.heap.size _ := Var.stays (by (exact Var.au)) hS5
    clear z0 z0c z0f
    have z0 := z0'
    clear z0'
    have z0l := z0.lt
    obtain ⟨z0c, z0f⟩ := obj_facts z0
    have z1' : Var 25 w5 w1.heap.size _ := Var.stays (by (exact Var.au)) hS5
    clear z1 z1c z1f
    have z1 := z1'
    clear z1'
    have z1l := z1.lt
    obtain ⟨z1c, z1f⟩ := obj_facts z1
    have Hrow := Lib.hid (Hrow.out.stays hS5)
    go_upto_region 6 with (fail)
    rw [storeF z1]
    obtain ⟨w8, hw8, z1', z0', hR8, hS8, hrow8, hs8⟩ := put_all z1 z0 HR.out HS.out Hrow.out (by omega) (by omega) (by omega) (by omega) 2 (.string ⟨a5.toArray⟩)
    rw [hw8]
    have HR := Lib.hid hR8
    have HS := Lib.hid hS8
    have Hrow := Lib.hid hrow8
    clear hw8 z0 z0c z0f z1 z1c z1f hR8 hS8 hrow8
    have z0 := z0'
    have z1 := z1'
    clear z0' z1'
    obtain ⟨z0c, z0f⟩ := obj_facts z0
    have z0l := z0.lt
    obtain ⟨z1c, z1f⟩ := obj_facts z1
    have z1l := z1.lt
    go_upto_region 6 with (fail)
    go_cut [] (fun wx => ∃ l s2 a cap, R = .ok (.mk 57 a2 a5 0 0 0 false l (Px.offOf E s)) s2 ∧ Under B E g w w.heap.size w1.heap.size zero9 (cells9 (.mk 57 a2 a5 0 0 0 false [] (Px.offOf E s))) l l.length s2 a cap wx)
    case first =>
      go_wp2_with fail
      go_region_law (first | (go_simp; go_at_call 155; refine (block_rd (HR.out.locals (by (repeat (first | with_reducible exact HL.out | with_reducible refine Locals.alloc ?_ _ | with_reducible refine Locals.drew ?_ | (with_reducible refine Locals.setRowN ?_ ?_ ?_ _; rotate_left; (focus ((repeat (first | with_reducible exact HasV.new _ _ _ | with_reducible refine HasV.setRow ?_ _ _ | with_reducible refine HasV.alloc ?_ _ | with_reducible exact HasV.of (by assumption))); done)); (focus (first | with_reducible exact Nat.le_refl _ | with_reducible assumption | omega | (simp; omega)))) | with_reducible exact Locals.refl _ _)))) (N := left s5) (Px.stmt E) Px.takes_stmt (fun w s h _ => hst w s h) (Nat.le_succ _)).mono ?_; intro e6 w6 hm6; refine hm6.cases ?_ ?_; rotate_left; (focus (intro db sb hrb heb hRb hSb; subst heb; refine post_panic rfl ?_; exact Says.bad (HX.out.trans (Res.bind_of_bad hrb _)) (Stays.trans (a := w) (by (repeat (first | with_reducible exact HS.out | with_reducible refine Stays.alloc ?_ _ | with_reducible refine Stays.drew ?_ | (with_reducible refine Stays.setRow ?_ ?_ _; rotate_left; (focus (first | with_reducible exact Nat.le_refl _ | with_reducible assumption | omega | (simp; omega)))) | with_reducible exact Stays.refl _ _ _))) hSb) hRb)); intro a6 s6 v6 hr6 he6 hv6 hR6 hS6; subst he6; have HX := Lib.hid (HX.out.trans (Res.bind_of_ok hr6 _)); have HR := Lib.hid hR6; have HS := Lib.hid (Stays.trans (a := w) (by (repeat (first | with_reducible exact HS.out | with_reducible refine Stays.alloc ?_ _ | with_reducible refine Stays.drew ?_ | (with_reducible refine Stays.setRow ?_ ?_ _; rotate_left; (focus (first | with_reducible exact Nat.le_refl _ | with_reducible assumption | omega | (simp; omega)))) | with_reducible exact Stays.refl _ _ _))) hS6); have Hr6 := Lib.hid hr6; have hs6 := hS6.size; (try simp at hs6); clear hm6 hr6 hR6; obtain ⟨p6, c6, rfl, hw6⟩ := hv6; have Hw6 := Lib.hid hw6.lt; clear hw6; unfold nodeVal; have z0' : Var 25 w6 w.heap.size _ := Var.stays (by (focus ((repeat (first | with_reducible assumption | with_reducible exact Var.new _ _ _ | (with_reducible refine Var.row_new ?_ _; (focus ((repeat (first | with_reducible exact HasV.new _ _ _ | with_reducible refine HasV.setRow ?_ _ _ | with_reducible refine HasV.alloc ?_ _ | with_reducible exact HasV.of (by assumption))); done))) | with_reducible apply Var.drew | with_reducible apply Var.row_other | with_reducible apply Var.alloc | omega | (simp; omega))); done))) hS6; clear z0 z0c z0f; have z0 := z0'; clear z0'; have z0l := z0.lt; obtain ⟨z0c, z0f⟩ := obj_facts z0; have z1' : Var 25 w6 w1.heap.size _ := Var.stays (by (focus ((repeat (first | with_reducible assumption | with_reducible exact Var.new _ _ _ | (with_reducible refine Var.row_new ?_ _; (focus ((repeat (first | with_reducible exact HasV.new _ _ _ | with_reducible refine HasV.setRow ?_ _ _ | with_reducible refine HasV.alloc ?_ _ | with_reducible exact HasV.of (by assumption))); done))) | with_reducible apply Var.drew | with_reducible apply Var.row_other | with_reducible apply Var.alloc | omega | (simp; omega))); done))) hS6; clear z1 z1c z1f z1l; have z1 := z1'; clear z1'; have z1l := z1.lt; obtain ⟨z1c, z1f⟩ := obj_facts z1; obtain ⟨xs, hx1, hx2, hx3⟩ := (RowX.lt (RowX.drew Hrow.out)).stays hS6; have Hx1 := Lib.hid (show w6.ownsRow 0 25 9 _ a3.length xs from hx1); have Hx2 := Lib.hid hx2; have Hx3 := Lib.hid hx3; have hown2 := Own.lo hx2; clear hx1 hx2 hx3) | (refine step_append_lies _ (by rfl) (.tmp 20) (.tmp 23) 23 (by rfl) 0 25 i0 _ 9 104 Tryz.underlying23 hi hz0 hz1 hz2 (by rfl) (by omega) (.slice p3 a3.length c3) a3.length xs (by rfl) (Hx1.out.alloc _) ⟨w6.heap.size, 0, none⟩ 1 1 (nodeCells a6 (.slice p6 a6.kids.length c6)) (by rfl) (by rfl) (World.news_of_block (cs := (nodeCells a6 (.slice p6 a6.kids.length c6)).toArray) (t := 25) (fr := (0, 0)) (heap_alloc_new w6 _)) (node_ones _ _ _ _) (by omega) (by unfold maxLen; omega) (by omega) (by omega) (w6.heap.size + 1) (by simp) ?_; intro gA capA wA hownA hgrowA hatA hltA; have HownA := Lib.hid hownA; have HgrowA := Lib.hid hgrowA; have HatA := Lib.hid hatA; have z1' := Var.grown z1 hgrowA (hown2 _ (by omega)); clear z1 z1c z1f; have z1 := z1'; clear z1'; obtain ⟨z1c, z1f⟩ := obj_facts z1; have z1l := z1.lt; clear hownA hatA))
      all_goals (go_wp2_with fail; go_meet; exact ⟨a3 ++ [a6], s6, _, _, HX.out, Under.len (Under.grow (l := a3) rfl (fun _ _ => rfl) HR.out HS.out hlt (Nat.le_refl _) (by omega) (by simp; omega) (by simpa using hs6) z0 z1 Hx1.out Hx2.out Hx3.out Hw6.out HownA.out HgrowA.out HatA.out) (by simp)⟩)
    case rest =>
      obtain ⟨a7, s7, p7, c7, hX7, hu7⟩ := hcut
      obtain ⟨w7, hw7⟩ : ∃ w7, w7 = wc := ⟨_, rfl⟩
      subst hw7
      have HX := Lib.hid hX7
      have HR := Lib.hid hu7.rd
      have HS := Lib.hid hu7.stays
      have Hw7 := Lib.hid hu7.row.row.lt
      have z0 := hu7.v0
      have z1 := hu7.v1
      unfold zero9 at z0
      unfold cells9 at z1
      clear hu7 hX7
      obtain ⟨z0c, z0f⟩ := obj_facts z0
      have z0l := z0.lt
      obtain ⟨z1c, z1f⟩ := obj_facts z1
      have z1l := z1.lt
      go_wp2_with fail
      (rw [storeN]; rotate_left; (exact HasN.au))
      ((try simp only [Exit.inBlock, Exit.then]); refine ret_node (by rfl) (by rfl) (by (exact Var.au)) (by first | rfl | simp) (by rfl) ?_)
      refine Says.ok HX.out (by (exact Stays.au)) ⟨_, _, rfl, (show Row _ _ a7 (.slice p7 a7.length c7) from Row.mono (by (have QQ := Hw7; exact Row.au)) ?_)⟩ (HR.out.locals ?_)
      · intro b hb; (try simp at hb); omega
      · (exact Locals.au)
end Go.Proofs.YtbgpboiblggmiaaGreatDoor

/-
  Walks over record and module.
-/
namespace Go.Proofs.YtbgpboiblggmiaaGreatDoor
open Go.RowKit
open Px (St T D Res left Takes)

set_option maxRecDepth 100000 in
set_option maxHeartbeats 2000000 in
theorem record_rd {B E g : Nat} {w : World} {s : St} (h : RdAt B E g w s) {t : Lx.Tok} {r : List Lx.Tok} (ht : s.toks = t :: r) :
    Calls Tryz.prog 133 #[.pointer (some ⟨g, 0, none⟩)] w (Says B E g w (encT w.heap.size) (Px.record E s)) := by
  have Ht := Lib.hid ht
  clear ht
  have hmf : ∀ (fn : Fn) (first cap : Array Value) (w : World), (Instr.makeFunc fn first cap).run Tryz.prog w = .ok (.func fn first cap) w := fun _ _ _ _ => rfl
  have hlt := h.lt
  have hB := h.le
  have HR := Lib.hid h
  have HS := Lib.hid (Stays.refl B none w)
  clear h
  obtain ⟨R, hR⟩ : ∃ R, R = Px.record E s := ⟨_, rfl⟩
  rw [← hR]
  unfold Px.record at hR
  have HX := Lib.hid hR
  clear hR
  go_enter Tryz.func133, Tryz.ntmps133
  go_wp2_with fail
  refine (begin_rd (HR.out.locals (by (exact Locals.au))) 51 Ht.out).mono ?_
  rintro e1 w1 ⟨rfl, hS1, hR1⟩
  unfold nodeVal
  have HR := Lib.hid hR1
  have HS := Lib.hid (Stays.trans (a := w) (by (exact Stays.au)) hS1)
  have hs1 := hS1.size
  (try simp at hs1)
  clear hR1
  have z0 : Var 25 w1 w.heap.size _ := Var.stays (by (exact Var.au)) hS1
  have z0l := z0.lt
  obtain ⟨z0c, z0f⟩ := obj_facts z0
  go_wp2_with fail
  refine (name_rd (HR.out.locals (by (exact Locals.au)))).mono ?_
  intro e2 w2 hm2
  refine hm2.cases ?_ ?_
  rotate_left
  focus (intro db sb hrb heb hRb hSb; subst heb; go_wp2_with fail; ((try simp only [Exit.inBlock, Exit.then]); refine post_panic rfl ?_); exact Says.bad (HX.out.trans (Res.bind_of_bad hrb _)) (Stays.trans (a := w) (by (exact Stays.au)) hSb) hRb)
  intro a2 s2 v2 hr2 he2 hv2 hR2 hS2
  subst he2
  have HX := Lib.hid (HX.out.trans (Res.bind_of_ok hr2 _))
  have HR := Lib.hid hR2
  have HS := Lib.hid (Stays.trans (a := w) (by (exact Stays.au)) hS2)
  have Hr2 := Lib.hid hr2
  have hs2 := hS2.size
  (try simp at hs2)
  clear hm2 hr2 hR2
  obtain rfl := hv2
  have z0' : Var 25 w2 w.heap.size _ := Var.stays (by (exact Var.au)) hS2
  clear z0 z0c z0f
  have z0 := z0'
  clear z0'
  have z0l := z0.lt
  obtain ⟨z0c, z0f⟩ := obj_facts z0
  have z1 : Var 25 w2 w1.heap.size _ := Var.stays (by (exact Var.au)) hS2
  have z1l := z1.lt
  obtain ⟨z1c, z1f⟩ := obj_facts z1
  go_wp2_with fail
  rw [storeF z1]
  go_wp2_with fail
  refine (list_rd (HR.out.locals (by (exact Locals.au))) (N := left s2) 152 (fun _ _ => by simp [go_sem]) (Px.field E) Px.takes_field (fun w s h _ => field_rd h) (Nat.le_succ _)).mono ?_
  intro e3 w3 hm3
  refine hm3.cases ?_ ?_
  rotate_left
  focus (intro db sb hrb heb hRb hSb; subst heb; go_wp2_with fail; ((try simp only [Exit.inBlock, Exit.then]); refine post_panic rfl ?_); exact Says.bad (HX.out.trans (Res.bind_of_bad hrb _)) (Stays.trans (a := w) (by (exact Stays.au)) hSb) hRb)
  intro a3 s3 v3 hr3 he3 hv3 hR3 hS3
  subst he3
  have HX := Lib.hid (HX.out.trans (Res.bind_of_ok hr3 _))
  have HR := Lib.hid hR3
  have HS := Lib.hid (Stays.trans (a := w) (by (exact Stays.au)) hS3)
  have Hr3 := Lib.hid hr3
  have hs3 := hS3.size
  (try simp at hs3)
  clear hm3 hr3 hR3
  obtain ⟨p3, c3, rfl, hw3⟩ := hv3
  have Hw3 := Lib.hid hw3.row.lt
  clear hw3
  have z0' : Var 25 w3 w.heap.size _ := Var.stays (by (exact Var.au)) hS3
  clear z0 z0c z0f
  have z0 := z0'
  clear z0'
  have z0l := z0.lt
  obtain ⟨z0c, z0f⟩ := obj_facts z0
  have z1' : Var 25 w3 w1.heap.size _ := Var.stays (by (exact Var.au)) hS3
  clear z1 z1c z1f
  have z1 := z1'
  clear z1'
  have z1l := z1.lt
  obtain ⟨z1c, z1f⟩ := obj_facts z1
  go_wp2_with fail
  rw [storeF z1]
  (rw [storeN]; rotate_left; (exact HasN.au))
  ((try simp only [Exit.inBlock, Exit.then]); refine ret_node (by rfl) (by rfl) (by (exact Var.au)) (by first | rfl | simp) (by rfl) ?_)
  refine Says.ok HX.out (by (exact Stays.au)) ⟨_, _, rfl, (show Row _ _ a3 (.slice p3 a3.length c3) from Row.mono (by (have QQ := Hw3; exact Row.au)) ?_)⟩ (HR.out.locals ?_)
  · intro b hb; (try simp at hb); omega
  · (exact Locals.au)

set_option maxRecDepth 100000 in
set_option maxHeartbeats 2000000 in
theorem module_rd {B E g : Nat} {w : World} {s : St} (h : RdAt B E g w s) (hdec : ∀ w' s', RdAt B E g w' s' → Calls Tryz.prog 113 #[.pointer (some ⟨g, 0, none⟩)] w' (Says B E g w' (encT w'.heap.size) (Px.declaration E s'))) {t : Lx.Tok} {r : List Lx.Tok} (ht : s.toks = t :: r) :
    Calls Tryz.prog 87 #[.pointer (some ⟨g, 0, none⟩)] w (Says B E g w (encT w.heap.size) (Px.module E s)) := by
  have Ht := Lib.hid ht
  clear ht
  have hmf : ∀ (fn : Fn) (first cap : Array Value) (w : World), (Instr.makeFunc fn first cap).run Tryz.prog w = .ok (.func fn first cap) w := fun _ _ _ _ => rfl
  have hlt := h.lt
  have hB := h.le
  have HR := Lib.hid h
  have HS := Lib.hid (Stays.refl B none w)
  clear h
  obtain ⟨R, hR⟩ : ∃ R, R = Px.module E s := ⟨_, rfl⟩
  rw [← hR]
  unfold Px.module at hR
  have HX := Lib.hid hR
  clear hR
  go_enter Tryz.func87, Tryz.ntmps87
  go_wp2_with fail
  refine (begin_rd (HR.out.locals (by (exact Locals.au))) 60 Ht.out).mono ?_
  rintro e1 w1 ⟨rfl, hS1, hR1⟩
  unfold nodeVal
  have HR := Lib.hid hR1
  have HS := Lib.hid (Stays.trans (a := w) (by (exact Stays.au)) hS1)
  have hs1 := hS1.size
  (try simp at hs1)
  clear hR1
  have z0 : Var 25 w1 w.heap.size _ := Var.stays (by (exact Var.au)) hS1
  have z0l := z0.lt
  obtain ⟨z0c, z0f⟩ := obj_facts z0
  go_wp2_with fail
  refine (name_rd (HR.out.locals (by (exact Locals.au)))).mono ?_
  intro e2 w2 hm2
  refine hm2.cases ?_ ?_
  rotate_left
  focus (intro db sb hrb heb hRb hSb; subst heb; go_wp2_with fail; ((try simp only [Exit.inBlock, Exit.then]); refine post_panic rfl ?_); exact Says.bad (HX.out.trans (Res.bind_of_bad hrb _)) (Stays.trans (a := w) (by (exact Stays.au)) hSb) hRb)
  intro a2 s2 v2 hr2 he2 hv2 hR2 hS2
  subst he2
  have HX := Lib.hid (HX.out.trans (Res.bind_of_ok hr2 _))
  have HR := Lib.hid hR2
  have HS := Lib.hid (Stays.trans (a := w) (by (exact Stays.au)) hS2)
  have Hr2 := Lib.hid hr2
  have hs2 := hS2.size
  (try simp at hs2)
  clear hm2 hr2 hR2
  obtain rfl := hv2
  have z0' : Var 25 w2 w.heap.size _ := Var.stays (by (exact Var.au)) hS2
  clear z0 z0c z0f
  have z0 := z0'
  clear z0'
  have z0l := z0.lt
  obtain ⟨z0c, z0f⟩ := obj_facts z0
  have z1 : Var 25 w2 w1.heap.size _ := Var.stays (by (exact Var.au)) hS2
  have z1l := z1.lt
  obtain ⟨z1c, z1f⟩ := obj_facts z1
  go_wp2_with fail
  rw [storeF z1]
  go_wp2_with fail
  refine (expect_any (HR.out.locals (by (exact Locals.au))) [111, 119, 110, 101, 114] (by decide)).mono ?_
  intro e3 w3 hm3
  refine hm3.cases ?_ ?_
  rotate_left
  focus (intro db sb hrb heb hRb hSb; subst heb; go_wp2_with fail; ((try simp only [Exit.inBlock, Exit.then]); refine post_panic rfl ?_); exact Says.bad (HX.out.trans (Res.bind_of_bad hrb _)) (Stays.trans (a := w) (by (exact Stays.au)) hSb) hRb)
  intro a3 s3 v3 hr3 he3 hv3 hR3 hS3
  subst he3
  have HX := Lib.hid (HX.out.trans (Res.bind_of_ok hr3 _))
  have HR := Lib.hid hR3
  have HS := Lib.hid (Stays.trans (a := w) (by (exact Stays.au)) hS3)
  have Hr3 := Lib.hid hr3
  have hs3 := hS3.size
  (try simp at hs3)
  clear hm3 hr3 hR3
  obtain rfl := hv3
  have z0' : Var 25 w3 w.heap.size _ := Var.stays (by (exact Var.au)) hS3
  clear z0 z0c z0f
  have z0 := z0'
  clear z0'
  have z0l := z0.lt
  obtain ⟨z0c, z0f⟩ := obj_facts z0
  have z1' : Var 25 w3 w1.heap.size _ := Var.stays (by (exact Var.au)) hS3
  clear z1 z1c z1f
  have z1 := z1'
  clear z1'
  have z1l := z1.lt
  obtain ⟨z1c, z1f⟩ := obj_facts z1
  go_wp2_with fail
  refine (name_rd (HR.out.locals (by (exact Locals.au)))).mono ?_
  intro e4 w4 hm4
  refine hm4.cases ?_ ?_
  rotate_left
  focus (intro db sb hrb heb hRb hSb; subst heb; go_wp2_with fail; ((try simp only [Exit.inBlock, Exit.then]); refine post_panic rfl ?_); exact Says.bad (HX.out.trans (Res.bind_of_bad hrb _)) (Stays.trans (a := w) (by (exact Stays.au)) hSb) hRb)
  intro a4 s4 v4 hr4 he4 hv4 hR4 hS4
  subst he4
  have HX := Lib.hid (HX.out.trans (Res.bind_of_ok hr4 _))
  have HR := Lib.hid hR4
  have HS := Lib.hid (Stays.trans (a := w) (by (exact Stays.au)) hS4)
  have Hr4 := Lib.hid hr4
  have hs4 := hS4.size
  (try simp at hs4)
  clear hm4 hr4 hR4
  obtain rfl := hv4
  have z0' : Var 25 w4 w.heap.size _ := Var.stays (by (exact Var.au)) hS4
  clear z0 z0c z0f
  have z0 := z0'
  clear z0'
  have z0l := z0.lt
  obtain ⟨z0c, z0f⟩ := obj_facts z0
  have z1' : Var 25 w4 w1.heap.size _ := Var.stays (by (exact Var.au)) hS4
  clear z1 z1c z1f
  have z1 := z1'
  clear z1'
  have z1l := z1.lt
  obtain ⟨z1c, z1f⟩ := obj_facts z1
  go_wp2_with fail
  rw [storeF z1]
  go_wp2_with fail
  refine (list_rd (HR.out.locals (by (exact Locals.au))) (N := left s4) 113 (fun _ _ => by simp [go_sem]) (Px.declaration E) Px.takes_declaration (fun w s h _ => hdec w s h) (Nat.le_succ _)).mono ?_
  intro e5 w5 hm5
  refine hm5.cases ?_ ?_
  rotate_left
  focus (intro db sb hrb heb hRb hSb; subst heb; go_wp2_with fail; ((try simp only [Exit.inBlock, Exit.then]); refine post_panic rfl ?_); exact Says.bad (HX.out.trans (Res.bind_of_bad hrb _)) (Stays.trans (a := w) (by (exact Stays.au)) hSb) hRb)
  intro a5 s5 v5 hr5 he5 hv5 hR5 hS5
  subst he5
  have HX := Lib.hid (HX.out.trans (Res.bind_of_ok hr5 _))
  have HR := Lib.hid hR5
  have HS := Lib.hid (Stays.trans (a := w) (by (exact Stays.au)) hS5)
  have Hr5 := Lib.hid hr5
  have hs5 := hS5.size
  (try simp at hs5)
  clear hm5 hr5 hR5
  obtain ⟨p5, c5, rfl, hw5⟩ := hv5
  have Hw5 := Lib.hid hw5.row.lt
  clear hw5
  have z0' : Var 25 w5 w.heap.size _ := Var.stays (by (exact Var.au)) hS5
  clear z0 z0c z0f
  have z0 := z0'
  clear z0'
  have z0l := z0.lt
  obtain ⟨z0c, z0f⟩ := obj_facts z0
  have z1' : Var 25 w5 w1.heap.size _ := Var.stays (by (exact Var.au)) hS5
  clear z1 z1c z1f
  have z1 := z1'
  clear z1'
  have z1l := z1.lt
  obtain ⟨z1c, z1f⟩ := obj_facts z1
  go_wp2_with fail
  rw [storeF z1]
  (rw [storeN]; rotate_left; (exact HasN.au))
  ((try simp only [Exit.inBlock, Exit.then]); refine ret_node (by rfl) (by rfl) (by (exact Var.au)) (by first | rfl | simp) (by rfl) ?_)
  refine Says.ok HX.out (by (exact Stays.au)) ⟨_, _, rfl, (show Row _ _ a5 (.slice p5 a5.length c5) from Row.mono (by (have QQ := Hw5; exact Row.au)) ?_)⟩ (HR.out.locals ?_)
  · intro b hb; (try simp at hb); omega
  · (exact Locals.au)
end Go.Proofs.YtbgpboiblggmiaaGreatDoor

