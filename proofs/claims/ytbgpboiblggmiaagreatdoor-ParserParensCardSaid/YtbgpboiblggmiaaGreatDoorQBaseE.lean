/-
  Merged texts of the base: Stj Stk Stl Stm Stn Sto Stp Stq Str.
-/
import Derived.Test.YtbgpboiblggmiaaGreatDoorQBaseD

set_option linter.unusedVariables false
set_option linter.unusedSimpArgs false
/-
  Walks over thread.
-/
namespace Go.Proofs.YtbgpboiblggmiaaGreatDoor
open Go.RowKit
open Px (St T D Res left Takes)

set_option maxRecDepth 100000 in
set_option maxHeartbeats 2000000 in
theorem thread_rd {B E g : Nat} {w : World} {s : St} (h : RdAt B E g w s) :
    Calls Tryz.prog 88 #[.pointer (some ⟨g, 0, none⟩)] w (Says B E g w (encT w.heap.size) (Px.thread E s)) := by
  have hF := tokF2
  have hmf : ∀ (fn : Fn) (first cap : Array Value) (w : World), (Instr.makeFunc fn first cap).run Tryz.prog w = .ok (.func fn first cap) w := fun _ _ _ _ => rfl
  have hlt := h.lt
  have hB := h.le
  have HR := Lib.hid h
  have HS := Lib.hid (Stays.refl B none w)
  clear h
  obtain ⟨R, hR⟩ : ∃ R, R = Px.thread E s := ⟨_, rfl⟩
  rw [← hR]
  unfold Px.thread Px.offOf at hR
  have HX := Lib.hid hR
  clear hR
  go_enter Tryz.func88, Tryz.ntmps88
  go_wp2_with fail
  refine (peek_any (HR.out.locals (by (exact Locals.au)))).mono ?_
  rintro e1 w1 ⟨rfl, hb1⟩
  unfold tokVal
  have hS1 := (Stays.refl B none _).below hb1 (Nat.le_refl _)
  have HR := Lib.hid (RdAt.of_below (HR.out.locals (by (exact Locals.au))) hb1 (Nat.le_refl _))
  have HS := Lib.hid (Stays.trans (a := w) (by (exact Stays.au)) hS1)
  have hs1 := hS1.size
  (try simp at hs1)
  clear hb1
  have z0 : Var 25 w1 w.heap.size _ := Var.stays (by (exact Var.au)) hS1
  have z0l := z0.lt
  obtain ⟨z0c, z0f⟩ := obj_facts z0
  go_wp2_with fail
  refine (accept_any (HR.out.locals (by (exact Locals.au))) [97, 115, 108, 101, 101, 112] (by decide)).mono ?_
  rintro e2 w2 ⟨rfl, hS2, hR2⟩
  have HR := Lib.hid hR2
  have HS := Lib.hid (Stays.trans (a := w) (by (exact Stays.au)) hS2)
  have hs2 := hS2.size
  (try simp at hs2)
  clear hR2
  have z0' : Var 25 w2 w.heap.size _ := Var.stays (by (exact Var.au)) hS2
  clear z0 z0c z0f
  have z0 := z0'
  clear z0'
  have z0l := z0.lt
  obtain ⟨z0c, z0f⟩ := obj_facts z0
  have z1 : Var 25 w2 w1.heap.size _ := Var.stays (by (exact Var.au)) hS2
  have z1l := z1.lt
  obtain ⟨z1c, z1f⟩ := obj_facts z1
  cases hac : Px.accepts E [97, 115, 108, 101, 101, 112] s
  · have HX := Lib.hid (show _ from by have := HX.out; rw [hac] at this; exact this)
    clear hac
    go_wp2_with fail
    refine (expect_any (HR.out.locals (by (exact Locals.au))) [116, 104, 114, 101, 97, 100] (by decide)).mono ?_
    intro e3 w3 hm3
    refine hm3.cases ?_ ?_
    rotate_left
    focus (intro db sb hrb heb hRb hSb; subst heb; go_wp2_with fail; ((try simp only [Exit.inBlock, Exit.then]); refine post_panic rfl ?_); exact Says.bad (HX.out.trans (Res.bind_of_bad hrb _)) (Stays.trans (a := w) (by (exact Stays.au)) hSb) hRb)
    intro a3 s3 v3 hr3 he3 hv3 hR3 hS3
    subst he3
    have HX := Lib.hid (HX.out.trans (Res.bind_of_ok hr3 _))
    have HR := Lib.hid hR3
    have HS := Lib.hid (Stays.trans (a := w) (by (exact Stays.au)) hS3)
    have Hr3 := Lib.hid hr3
    have hs3 := hS3.size
    (try simp at hs3)
    clear hm3 hr3 hR3
    obtain rfl := hv3
    have z0' : Var 25 w3 w.heap.size _ := Var.stays (by (exact Var.au)) hS3
    clear z0 z0c z0f
    have z0 := z0'
    clear z0'
    have z0l := z0.lt
    obtain ⟨z0c, z0f⟩ := obj_facts z0
    have z1' : Var 25 w3 w1.heap.size _ := Var.stays (by (exact Var.au)) hS3
    clear z1 z1c z1f
    have z1 := z1'
    clear z1'
    have z1l := z1.lt
    obtain ⟨z1c, z1f⟩ := obj_facts z1
    go_wp2_with fail
    refine (name_rd (HR.out.locals (by (exact Locals.au)))).mono ?_
    intro e4 w4 hm4
    refine hm4.cases ?_ ?_
    rotate_left
    focus (intro db sb hrb heb hRb hSb; subst heb; go_wp2_with fail; ((try simp only [Exit.inBlock, Exit.then]); refine post_panic rfl ?_); exact Says.bad (HX.out.trans (Res.bind_of_bad hrb _)) (Stays.trans (a := w) (by (exact Stays.au)) hSb) hRb)
    intro a4 s4 v4 hr4 he4 hv4 hR4 hS4
    subst he4
    have HX := Lib.hid (HX.out.trans (Res.bind_of_ok hr4 _))
    have HR := Lib.hid hR4
    have HS := Lib.hid (Stays.trans (a := w) (by (exact Stays.au)) hS4)
    have Hr4 := Lib.hid hr4
    have hs4 := hS4.size
    (try simp at hs4)
    clear hm4 hr4 hR4
    obtain rfl := hv4
    have z0' : Var 25 w4 w.heap.size _ := Var.stays (by (exact Var.au)) hS4
    clear z0 z0c z0f
    have z0 := z0'
    clear z0'
    have z0l := z0.lt
    obtain ⟨z0c, z0f⟩ := obj_facts z0
    have z1' : Var 25 w4 w1.heap.size _ := Var.stays (by (exact Var.au)) hS4
    clear z1 z1c z1f
    have z1 := z1'
    clear z1'
    have z1l := z1.lt
    obtain ⟨z1c, z1f⟩ := obj_facts z1
    go_wp2_with fail
    rw [storeF z1]
    go_wp2_with fail
    refine (expect_any (HR.out.locals (by (exact Locals.au))) [61] (by decide)).mono ?_
    intro e5 w5 hm5
    refine hm5.cases ?_ ?_
    rotate_left
    focus (intro db sb hrb heb hRb hSb; subst heb; go_wp2_with fail; ((try simp only [Exit.inBlock, Exit.then]); refine post_panic rfl ?_); exact Says.bad (HX.out.trans (Res.bind_of_bad hrb _)) (Stays.trans (a := w) (by (exact Stays.au)) hSb) hRb)
    intro a5 s5 v5 hr5 he5 hv5 hR5 hS5
    subst he5
    have HX := Lib.hid (HX.out.trans (Res.bind_of_ok hr5 _))
    have HR := Lib.hid hR5
    have HS := Lib.hid (Stays.trans (a := w) (by (exact Stays.au)) hS5)
    have Hr5 := Lib.hid hr5
    have hs5 := hS5.size
    (try simp at hs5)
    clear hm5 hr5 hR5
    obtain rfl := hv5
    have z0' : Var 25 w5 w.heap.size _ := Var.stays (by (exact Var.au)) hS5
    clear z0 z0c z0f
    have z0 := z0'
    clear z0'
    have z0l := z0.lt
    obtain ⟨z0c, z0f⟩ := obj_facts z0
    have z1' : Var 25 w5 w1.heap.size _ := Var.stays (by (exact Var.au)) hS5
    clear z1 z1c z1f
    have z1 := z1'
    clear z1'
    have z1l := z1.lt
    obtain ⟨z1c, z1f⟩ := obj_facts z1
    go_wp2_with fail
    refine (path_rd (HR.out.locals (by (exact Locals.au)))).mono ?_
    intro e6 w6 hm6
    refine hm6.cases ?_ ?_
    rotate_left
    focus (intro db sb hrb heb hRb hSb; subst heb; go_wp2_with fail; ((try simp only [Exit.inBlock, Exit.then]); refine post_panic rfl ?_); exact Says.bad (HX.out.trans (Res.bind_of_bad hrb _)) (Stays.trans (a := w) (by (exact Stays.au)) hSb) hRb)
    intro a6 s6 v6 hr6 he6 hv6 hR6 hS6
    subst he6
    have HX := Lib.hid (HX.out.trans (Res.bind_of_ok hr6 _))
    have HR := Lib.hid hR6
    have HS := Lib.hid (Stays.trans (a := w) (by (exact Stays.au)) hS6)
    have Hr6 := Lib.hid hr6
    have hs6 := hS6.size
    (try simp at hs6)
    clear hm6 hr6 hR6
    obtain rfl := hv6
    have z0' : Var 25 w6 w.heap.size _ := Var.stays (by (exact Var.au)) hS6
    clear z0 z0c z0f
    have z0 := z0'
    clear z0'
    have z0l := z0.lt
    obtain ⟨z0c, z0f⟩ := obj_facts z0
    have z1' : Var 25 w6 w1.heap.size _ := Var.stays (by (exact Var.au)) hS6
    clear z1 z1c z1f
    have z1 := z1'
    clear z1'
    have z1l := z1.lt
    obtain ⟨z1c, z1f⟩ := obj_facts z1
    go_wp2_with fail
    rw [storeF z1]
    go_wp2_with fail
    refine (tuple_rd (HR.out.locals (by (exact Locals.au))) 116 (fun _ _ => by simp [go_sem]) (Px.numeral E) Px.suf_numeral (fun _ _ h => numeral_rd h)).mono ?_
    intro e7 w7 hm7
    refine hm7.cases ?_ ?_
    rotate_left
    focus (intro db sb hrb heb hRb hSb; subst heb; go_wp2_with fail; ((try simp only [Exit.inBlock, Exit.then]); refine post_panic rfl ?_); exact Says.bad (HX.out.trans (Res.bind_of_bad hrb _)) (Stays.trans (a := w) (by (exact Stays.au)) hSb) hRb)
    intro a7 s7 v7 hr7 he7 hv7 hR7 hS7
    subst he7
    have HX := Lib.hid (HX.out.trans (Res.bind_of_ok hr7 _))
    have HR := Lib.hid hR7
    have HS := Lib.hid (Stays.trans (a := w) (by (exact Stays.au)) hS7)
    have Hr7 := Lib.hid hr7
    have hs7 := hS7.size
    (try simp at hs7)
    clear hm7 hr7 hR7
    obtain ⟨p7, c7, rfl, hw7⟩ := hv7
    have Hw7 := Lib.hid hw7.row.lt
    clear hw7
    have z0' : Var 25 w7 w.heap.size _ := Var.stays (by (exact Var.au)) hS7
    clear z0 z0c z0f
    have z0 := z0'
    clear z0'
    have z0l := z0.lt
    obtain ⟨z0c, z0f⟩ := obj_facts z0
    have z1' : Var 25 w7 w1.heap.size _ := Var.stays (by (exact Var.au)) hS7
    clear z1 z1c z1f
    have z1 := z1'
    clear z1'
    have z1l := z1.lt
    obtain ⟨z1c, z1f⟩ := obj_facts z1
    go_wp2_with fail
    rw [storeF z1]
    go_wp2_with fail
    refine (expect_any (HR.out.locals (by (exact Locals.au))) [59] (by decide)).mono ?_
    intro e8 w8 hm8
    refine hm8.cases ?_ ?_
    rotate_left
    focus (intro db sb hrb heb hRb hSb; subst heb; go_wp2_with fail; ((try simp only [Exit.inBlock, Exit.then]); refine post_panic rfl ?_); exact Says.bad (HX.out.trans (Res.bind_of_bad hrb _)) (Stays.trans (a := w) (by (exact Stays.au)) hSb) hRb)
    intro a8 s8 v8 hr8 he8 hv8 hR8 hS8
    subst he8
    have HX := Lib.hid (HX.out.trans (Res.bind_of_ok hr8 _))
    have HR := Lib.hid hR8
    have HS := Lib.hid (Stays.trans (a := w) (by (exact Stays.au)) hS8)
    have Hr8 := Lib.hid hr8
    have hs8 := hS8.size
    (try simp at hs8)
    clear hm8 hr8 hR8
    obtain rfl := hv8
    have z0' : Var 25 w8 w.heap.size _ := Var.stays (by (exact Var.au)) hS8
    clear z0 z0c z0f
    have z0 := z0'
    clear z0'
    have z0l := z0.lt
    obtain ⟨z0c, z0f⟩ := obj_facts z0
    have z1' : Var 25 w8 w1.heap.size _ := Var.stays (by (exact Var.au)) hS8
    clear z1 z1c z1f
    have z1 := z1'
    clear z1'
    have z1l := z1.lt
    obtain ⟨z1c, z1f⟩ := obj_facts z1
    have Hw7 := Lib.hid (Row.stays (by (have QQ := Hw7; exact Row.au)) hS8)
    go_wp2_with fail
    (rw [storeN]; rotate_left; (exact HasN.au))
    ((try simp only [Exit.inBlock, Exit.then]); refine ret_node (by rfl) (by rfl) (by (exact Var.au)) (by first | rfl | simp) (by rfl) ?_)
    refine Says.ok HX.out (by (exact Stays.au)) ⟨_, _, rfl, (show Row _ _ a7 (.slice p7 a7.length c7) from Row.mono (by (have QQ := Hw7; exact Row.au)) ?_)⟩ (HR.out.locals ?_)
    · intro b hb; (try simp at hb); omega
    · (exact Locals.au)
  · have HX := Lib.hid (show _ from by have := HX.out; rw [hac] at this; exact this)
    clear hac
    go_wp2_with fail
    rw [storeF z1]
    go_wp2_with fail
    refine (expect_any (HR.out.locals (by (exact Locals.au))) [116, 104, 114, 101, 97, 100] (by decide)).mono ?_
    intro e3 w3 hm3
    refine hm3.cases ?_ ?_
    rotate_left
    focus (intro db sb hrb heb hRb hSb; subst heb; go_wp2_with fail; ((try simp only [Exit.inBlock, Exit.then]); refine post_panic rfl ?_); exact Says.bad (HX.out.trans (Res.bind_of_bad hrb _)) (Stays.trans (a := w) (by (exact Stays.au)) hSb) hRb)
    intro a3 s3 v3 hr3 he3 hv3 hR3 hS3
    subst he3
    have HX := Lib.hid (HX.out.trans (Res.bind_of_ok hr3 _))
    have HR := Lib.hid hR3
    have HS := Lib.hid (Stays.trans (a := w) (by (exact Stays.au)) hS3)
    have Hr3 := Lib.hid hr3
    have hs3 := hS3.size
    (try simp at hs3)
    clear hm3 hr3 hR3
    obtain rfl := hv3
    have z0' : Var 25 w3 w.heap.size _ := Var.stays (by (exact Var.au)) hS3
    clear z0 z0c z0f
    have z0 := z0'
    clear z0'
    have z0l := z0.lt
    obtain ⟨z0c, z0f⟩ := obj_facts z0
    have z1' : Var 25 w3 w1.heap.size _ := Var.stays (by (exact Var.au)) hS3
    clear z1 z1c z1f
    have z1 := z1'
    clear z1'
    have z1l := z1.lt
    obtain ⟨z1c, z1f⟩ := obj_facts z1
    go_wp2_with fail
    refine (name_rd (HR.out.locals (by (exact Locals.au)))).mono ?_
    intro e4 w4 hm4
    refine hm4.cases ?_ ?_
    rotate_left
    focus (intro db sb hrb heb hRb hSb; subst heb; go_wp2_with fail; ((try simp only [Exit.inBlock, Exit.then]); refine post_panic rfl ?_); exact Says.bad (HX.out.trans (Res.bind_of_bad hrb _)) (Stays.trans (a := w) (by (exact Stays.au)) hSb) hRb)
    intro a4 s4 v4 hr4 he4 hv4 hR4 hS4
    subst he4
    have HX := Lib.hid (HX.out.trans (Res.bind_of_ok hr4 _))
    have HR := Lib.hid hR4
    have HS := Lib.hid (Stays.trans (a := w) (by (exact Stays.au)) hS4)
    have Hr4 := Lib.hid hr4
    have hs4 := hS4.size
    (try simp at hs4)
    clear hm4 hr4 hR4
    obtain rfl := hv4
    have z0' : Var 25 w4 w.heap.size _ := Var.stays (by (exact Var.au)) hS4
    clear z0 z0c z0f
    have z0 := z0'
    clear z0'
    have z0l := z0.lt
    obtain ⟨z0c, z0f⟩ := obj_facts z0
    have z1' : Var 25 w4 w1.heap.size _ := Var.stays (by (exact Var.au)) hS4
    clear z1 z1c z1f
    have z1 := z1'
    clear z1'
    have z1l := z1.lt
    obtain ⟨z1c, z1f⟩ := obj_facts z1
    go_wp2_with fail
    rw [storeF z1]
    go_wp2_with fail
    refine (expect_any (HR.out.locals (by (exact Locals.au))) [61] (by decide)).mono ?_
    intro e5 w5 hm5
    refine hm5.cases ?_ ?_
    rotate_left
    focus (intro db sb hrb heb hRb hSb; subst heb; go_wp2_with fail; ((try simp only [Exit.inBlock, Exit.then]); refine post_panic rfl ?_); exact Says.bad (HX.out.trans (Res.bind_of_bad hrb _)) (Stays.trans (a := w) (by (exact Stays.au)) hSb) hRb)
    intro a5 s5 v5 hr5 he5 hv5 hR5 hS5
    subst he5
    have HX := Lib.hid (HX.out.trans (Res.bind_of_ok hr5 _))
    have HR := Lib.hid hR5
    have HS := Lib.hid (Stays.trans (a := w) (by (exact Stays.au)) hS5)
    have Hr5 := Lib.hid hr5
    have hs5 := hS5.size
    (try simp at hs5)
    clear hm5 hr5 hR5
    obtain rfl := hv5
    have z0' : Var 25 w5 w.heap.size _ := Var.stays (by (exact Var.au)) hS5
    clear z0 z0c z0f
    have z0 := z0'
    clear z0'
    have z0l := z0.lt
    obtain ⟨z0c, z0f⟩ := obj_facts z0
    have z1' : Var 25 w5 w1.heap.size _ := Var.stays (by (exact Var.au)) hS5
    clear z1 z1c z1f
    have z1 := z1'
    clear z1'
    have z1l := z1.lt
    obtain ⟨z1c, z1f⟩ := obj_facts z1
    go_wp2_with fail
    refine (path_rd (HR.out.locals (by (exact Locals.au)))).mono ?_
    intro e6 w6 hm6
    refine hm6.cases ?_ ?_
    rotate_left
    focus (intro db sb hrb heb hRb hSb; subst heb; go_wp2_with fail; ((try simp only [Exit.inBlock, Exit.then]); refine post_panic rfl ?_); exact Says.bad (HX.out.trans (Res.bind_of_bad hrb _)) (Stays.trans (a := w) (by (exact Stays.au)) hSb) hRb)
    intro a6 s6 v6 hr6 he6 hv6 hR6 hS6
    subst he6
    have HX := Lib.hid (HX.out.trans (Res.bind_of_ok hr6 _))
    have HR := Lib.hid hR6
    have HS := Lib.hid (Stays.trans (a := w) (by (exact Stays.au)) hS6)
    have Hr6 := Lib.hid hr6
    have hs6 := hS6.size
    (try simp at hs6)
    clear hm6 hr6 hR6
    obtain rfl := hv6
    have z0' : Var 25 w6 w.heap.size _ := Var.stays (by (exact Var.au)) hS6
    clear z0 z0c z0f
    have z0 := z0'
    clear z0'
    have z0l := z0.lt
    obtain ⟨z0c, z0f⟩ := obj_facts z0
    have z1' : Var 25 w6 w1.heap.size _ := Var.stays (by (exact Var.au)) hS6
    clear z1 z1c z1f
    have z1 := z1'
    clear z1'
    have z1l := z1.lt
    obtain ⟨z1c, z1f⟩ := obj_facts z1
    go_wp2_with fail
    rw [storeF z1]
    go_wp2_with fail
    refine (tuple_rd (HR.out.locals (by (exact Locals.au))) 116 (fun _ _ => by simp [go_sem]) (Px.numeral E) Px.suf_numeral (fun _ _ h => numeral_rd h)).mono ?_
    intro e7 w7 hm7
    refine hm7.cases ?_ ?_
    rotate_left
    focus (intro db sb hrb heb hRb hSb; subst heb; go_wp2_with fail; ((try simp only [Exit.inBlock, Exit.then]); refine post_panic rfl ?_); exact Says.bad (HX.out.trans (Res.bind_of_bad hrb _)) (Stays.trans (a := w) (by (exact Stays.au)) hSb) hRb)
    intro a7 s7 v7 hr7 he7 hv7 hR7 hS7
    subst he7
    have HX := Lib.hid (HX.out.trans (Res.bind_of_ok hr7 _))
    have HR := Lib.hid hR7
    have HS := Lib.hid (Stays.trans (a := w) (by (exact Stays.au)) hS7)
    have Hr7 := Lib.hid hr7
    have hs7 := hS7.size
    (try simp at hs7)
    clear hm7 hr7 hR7
    obtain ⟨p7, c7, rfl, hw7⟩ := hv7
    have Hw7 := Lib.hid hw7.row.lt
    clear hw7
    have z0' : Var 25 w7 w.heap.size _ := Var.stays (by (exact Var.au)) hS7
    clear z0 z0c z0f
    have z0 := z0'
    clear z0'
    have z0l := z0.lt
    obtain ⟨z0c, z0f⟩ := obj_facts z0
    have z1' : Var 25 w7 w1.heap.size _ := Var.stays (by (exact Var.au)) hS7
    clear z1 z1c z1f
    have z1 := z1'
    clear z1'
    have z1l := z1.lt
    obtain ⟨z1c, z1f⟩ := obj_facts z1
    go_wp2_with fail
    rw [storeF z1]
    go_wp2_with fail
    refine (expect_any (HR.out.locals (by (exact Locals.au))) [59] (by decide)).mono ?_
    intro e8 w8 hm8
    refine hm8.cases ?_ ?_
    rotate_left
    focus (intro db sb hrb heb hRb hSb; subst heb; go_wp2_with fail; ((try simp only [Exit.inBlock, Exit.then]); refine post_panic rfl ?_); exact Says.bad (HX.out.trans (Res.bind_of_bad hrb _)) (Stays.trans (a := w) (by (exact Stays.au)) hSb) hRb)
    intro a8 s8 v8 hr8 he8 hv8 hR8 hS8
    subst he8
    have HX := Lib.hid (HX.out.trans (Res.bind_of_ok hr8 _))
    have HR := Lib.hid hR8
    have HS := Lib.hid (Stays.trans (a := w) (by (exact Stays.au)) hS8)
    have Hr8 := Lib.hid hr8
    have hs8 := hS8.size
    (try simp at hs8)
    clear hm8 hr8 hR8
    obtain rfl := hv8
    have z0' : Var 25 w8 w.heap.size _ := Var.stays (by (exact Var.au)) hS8
    clear z0 z0c z0f
    have z0 := z0'
    clear z0'
    have z0l := z0.lt
    obtain ⟨z0c, z0f⟩ := obj_facts z0
    have z1' : Var 25 w8 w1.heap.size _ := Var.stays (by (exact Var.au)) hS8
    clear z1 z1c z1f
    have z1 := z1'
    clear z1'
    have z1l := z1.lt
    obtain ⟨z1c, z1f⟩ := obj_facts z1
    have Hw7 := Lib.hid (Row.stays (by (have QQ := Hw7; exact Row.au)) hS8)
    go_wp2_with fail
    (rw [storeN]; rotate_left; (exact HasN.au))
    ((try simp only [Exit.inBlock, Exit.then]); refine ret_node (by rfl) (by rfl) (by (exact Var.au)) (by first | rfl | simp) (by rfl) ?_)
    refine Says.ok HX.out (by (exact Stays.au)) ⟨_, _, rfl, (show Row _ _ a7 (.slice p7 a7.length c7) from Row.mono (by (have QQ := Hw7; exact Row.au)) ?_)⟩ (HR.out.locals ?_)
    · intro b hb; (try simp at hb); omega
    · (exact Locals.au)
end Go.Proofs.YtbgpboiblggmiaaGreatDoor

/-
  Walks over unit and shared.
-/
namespace Go.Proofs.YtbgpboiblggmiaaGreatDoor
open Go.RowKit
open Px (St T D Res left Takes)

set_option maxRecDepth 100000 in
set_option maxHeartbeats 2000000 in
theorem unit_rd {B E g : Nat} {w : World} {s : St} (h : RdAt B E g w s) (hdec : ∀ w' s', RdAt B E g w' s' → Calls Tryz.prog 113 #[.pointer (some ⟨g, 0, none⟩)] w' (Says B E g w' (encT w'.heap.size) (Px.declaration E s'))) :
    Calls Tryz.prog 53 #[.pointer (some ⟨g, 0, none⟩)] w (Says B E g w (encT w.heap.size) (Px.unit E s)) := by
  have hF := tokF1
  have hlt := h.lt
  have hB := h.le
  have HR := Lib.hid h
  have HS := Lib.hid (Stays.refl B none w)
  clear h
  obtain ⟨R, hR⟩ : ∃ R, R = Px.unit E s := ⟨_, rfl⟩
  rw [← hR]
  unfold Px.unit at hR
  have HX := Lib.hid hR
  clear hR
  go_enter Tryz.func53, Tryz.ntmps53
  go_wp2_with fail
  refine (peek_any (HR.out.locals (by (exact Locals.au)))).mono ?_
  rintro e1 w1 ⟨rfl, hb1⟩
  unfold tokVal
  have hS1 := (Stays.refl B none _).below hb1 (Nat.le_refl _)
  have HR := Lib.hid (RdAt.of_below (HR.out.locals (by (exact Locals.au))) hb1 (Nat.le_refl _))
  have HS := Lib.hid (Stays.trans (a := w) (by (exact Stays.au)) hS1)
  have hs1 := hS1.size
  (try simp at hs1)
  clear hb1
  have z0 : Var 25 w1 w.heap.size _ := Var.stays (by (exact Var.au)) hS1
  have z0l := z0.lt
  obtain ⟨z0c, z0f⟩ := obj_facts z0
  cases h1 : Px.accepts E [109, 111, 100, 117, 108, 101] s
  · have HX := Lib.hid (HX.out.trans (if_neg (by rw [h1]; decide)))
    have x1 : ((Px.peek E s).text == [109, 111, 100, 117, 108, 101]) = false := h1
    clear h1
    have HX := Lib.hid (HX.out.trans (Res.bind_id _).symm)
    go_wp2_with fail
    refine (thread_rd (HR.out.locals (by (exact Locals.au)))).mono ?_
    intro e2 w2 hm2
    refine hm2.cases ?_ ?_
    rotate_left
    focus (intro db sb hrb heb hRb hSb; subst heb; go_wp2_with fail; ((try simp only [Exit.inBlock, Exit.then]); refine post_panic rfl ?_); exact Says.bad (HX.out.trans (Res.bind_of_bad hrb _)) (Stays.trans (a := w) (by (exact Stays.au)) hSb) hRb)
    intro a2 s2 v2 hr2 he2 hv2 hR2 hS2
    subst he2
    have HX := Lib.hid (HX.out.trans (Res.bind_of_ok hr2 _))
    have HR := Lib.hid hR2
    have HS := Lib.hid (Stays.trans (a := w) (by (exact Stays.au)) hS2)
    have Hr2 := Lib.hid hr2
    have hs2 := hS2.size
    (try simp at hs2)
    clear hm2 hr2 hR2
    obtain ⟨p2, c2, rfl, hw2⟩ := hv2
    have Hw2 := Lib.hid hw2.lt
    clear hw2
    unfold nodeVal
    have z0' : Var 25 w2 w.heap.size _ := Var.stays (by (exact Var.au)) hS2
    clear z0 z0c z0f
    have z0 := z0'
    clear z0'
    have z0l := z0.lt
    obtain ⟨z0c, z0f⟩ := obj_facts z0
    go_wp2_with fail
    (rw [storeN]; rotate_left; (exact HasN.au))
    ((try simp only [Exit.inBlock, Exit.then]); refine ret_node (by rfl) (by rfl) (by (exact Var.au)) (by first | rfl | simp) (by rfl) ?_)
    refine Says.ok HX.out (by (exact Stays.au)) ⟨_, _, rfl, (show Row _ _ a2.kids (.slice p2 a2.kids.length c2) from Row.mono (by (have QQ := Hw2; exact Row.au)) ?_)⟩ (HR.out.locals ?_)
    · intro b hb; (try simp at hb); omega
    · (exact Locals.au)
  · have HX := Lib.hid (HX.out.trans (if_pos h1))
    have x1 : ((Px.peek E s).text == [109, 111, 100, 117, 108, 101]) = true := h1
    obtain ⟨t, r, ht⟩ := acc_cons h1 (by decide)
    have Ht := Lib.hid ht
    clear h1 ht
    have HX := Lib.hid (HX.out.trans (Res.bind_id _).symm)
    go_wp2_with fail
    refine (module_rd (HR.out.locals (by (exact Locals.au))) hdec Ht.out).mono ?_
    intro e2 w2 hm2
    refine hm2.cases ?_ ?_
    rotate_left
    focus (intro db sb hrb heb hRb hSb; subst heb; go_wp2_with fail; ((try simp only [Exit.inBlock, Exit.then]); refine post_panic rfl ?_); exact Says.bad (HX.out.trans (Res.bind_of_bad hrb _)) (Stays.trans (a := w) (by (exact Stays.au)) hSb) hRb)
    intro a2 s2 v2 hr2 he2 hv2 hR2 hS2
    subst he2
    have HX := Lib.hid (HX.out.trans (Res.bind_of_ok hr2 _))
    have HR := Lib.hid hR2
    have HS := Lib.hid (Stays.trans (a := w) (by (exact Stays.au)) hS2)
    have Hr2 := Lib.hid hr2
    have hs2 := hS2.size
    (try simp at hs2)
    clear hm2 hr2 hR2
    obtain ⟨p2, c2, rfl, hw2⟩ := hv2
    have Hw2 := Lib.hid hw2.lt
    clear hw2
    unfold nodeVal
    have z0' : Var 25 w2 w.heap.size _ := Var.stays (by (exact Var.au)) hS2
    clear z0 z0c z0f
    have z0 := z0'
    clear z0'
    have z0l := z0.lt
    obtain ⟨z0c, z0f⟩ := obj_facts z0
    go_wp2_with fail
    (rw [storeN]; rotate_left; (exact HasN.au))
    ((try simp only [Exit.inBlock, Exit.then]); refine ret_node (by rfl) (by rfl) (by (exact Var.au)) (by first | rfl | simp) (by rfl) ?_)
    refine Says.ok HX.out (by (exact Stays.au)) ⟨_, _, rfl, (show Row _ _ a2.kids (.slice p2 a2.kids.length c2) from Row.mono (by (have QQ := Hw2; exact Row.au)) ?_)⟩ (HR.out.locals ?_)
    · intro b hb; (try simp at hb); omega
    · (exact Locals.au)
end Go.Proofs.YtbgpboiblggmiaaGreatDoor

/-
  Walks over length and shared.
-/
namespace Go.Proofs.YtbgpboiblggmiaaGreatDoor
open Go.RowKit
open Px (St T D Res left Takes)

theorem Res.ok_bind {α β : Type} (a : α) (s : St) (f : α → St → Res β) : (Px.Res.ok a s).bind f = f a s := rfl
theorem Res.bind_assoc {α β γ : Type} (m : Res α) (f : α → St → Res β) (k : β → St → Res γ) : (m.bind f).bind k = m.bind fun a s => (f a s).bind k := by cases m <;> rfl

set_option maxRecDepth 100000 in
set_option maxHeartbeats 400000 in
theorem length_rd {B E g : Nat} {w : World} {s : St} (h : RdAt B E g w s) :
    Calls Tryz.prog 156 #[.pointer (some ⟨g, 0, none⟩)] w (Says B E g w encI (Px.length E s)) := by
  have hlt := h.lt
  have hB := h.le
  have HR := Lib.hid h
  have HS := Lib.hid (Stays.refl B none w)
  clear h
  obtain ⟨R, hR⟩ : ∃ R, R = Px.length E s := ⟨_, rfl⟩
  rw [← hR]
  unfold Px.length at hR
  have HX := Lib.hid hR
  clear hR
  go_enter Tryz.func156, Tryz.ntmps156
  go_wp2_with fail
  refine (peek_any (HR.out.locals (by (exact Locals.au)))).mono ?_
  rintro e1 w1 ⟨rfl, hb1⟩
  unfold tokVal
  have hS1 := (Stays.refl B none _).below hb1 (Nat.le_refl _)
  have HR := Lib.hid (RdAt.of_below (HR.out.locals (by (exact Locals.au))) hb1 (Nat.le_refl _))
  have HS := Lib.hid (Stays.trans (a := w) (by (exact Stays.au)) hS1)
  have hs1 := hS1.size
  (try simp at hs1)
  clear hb1
  cases h1 : Px.accepts E [48] s
  · have HX := Lib.hid (HX.out.trans (if_neg (by rw [h1]; decide)))
    have x1 : ((Px.peek E s).text == [48]) = false := h1
    clear h1
    have HX := Lib.hid (HX.out.trans (Res.bind_id _).symm)
    go_wp2_with fail
    refine (number_rd (HR.out.locals (by (exact Locals.au)))).mono ?_
    intro e2 w2 hm2
    refine hm2.cases ?_ ?_
    rotate_left
    focus (intro db sb hrb heb hRb hSb; subst heb; go_wp2_with fail; ((try simp only [Exit.inBlock, Exit.then]); refine post_panic rfl ?_); exact Says.bad (HX.out.trans (Res.bind_of_bad hrb _)) (Stays.trans (a := w) (by (exact Stays.au)) hSb) hRb)
    intro a2 s2 v2 hr2 he2 hv2 hR2 hS2
    subst he2
    have HX := Lib.hid (HX.out.trans (Res.bind_of_ok hr2 _))
    have HR := Lib.hid hR2
    have HS := Lib.hid (Stays.trans (a := w) (by (exact Stays.au)) hS2)
    have Hr2 := Lib.hid hr2
    have hs2 := hS2.size
    (try simp at hs2)
    clear hm2 hr2 hR2
    obtain rfl := hv2
    go_wp2_with fail
    go_ret
    exact Says.ok HX.out (by (exact Stays.au)) rfl (HR.out.locals (by (exact Locals.au)))
  · have HX := Lib.hid (HX.out.trans (if_pos h1))
    have x1 : ((Px.peek E s).text == [48]) = true := h1
    clear h1
    go_wp2_with fail
    ((try simp only [Exit.inBlock, Exit.then]); refine post_panic rfl ?_)
    exact Says.bad HX.out (by (exact Stays.au)) (HR.out.locals (by (exact Locals.au)))

set_option maxRecDepth 100000 in
set_option maxHeartbeats 2000000 in
theorem shared_rd {B E g : Nat} {w : World} {s : St} (h : RdAt B E g w s) :
    Calls Tryz.prog 138 #[.pointer (some ⟨g, 0, none⟩)] w (Says B E g w (encT w.heap.size) (Px.shared E s)) := by
  have hF := tokF2
  have hF0 := tokF0
  have hlt := h.lt
  have hB := h.le
  have HR := Lib.hid h
  have HS := Lib.hid (Stays.refl B none w)
  clear h
  obtain ⟨R, hR⟩ : ∃ R, R = Px.shared E s := ⟨_, rfl⟩
  rw [← hR]
  unfold Px.shared Px.offOf at hR
  have HX := Lib.hid hR
  clear hR
  go_enter Tryz.func138, Tryz.ntmps138
  go_wp2_with fail
  refine (peek_any (HR.out.locals (by (exact Locals.au)))).mono ?_
  rintro e1 w1 ⟨rfl, hb1⟩
  unfold tokVal
  have hS1 := (Stays.refl B none _).below hb1 (Nat.le_refl _)
  have HR := Lib.hid (RdAt.of_below (HR.out.locals (by (exact Locals.au))) hb1 (Nat.le_refl _))
  have HS := Lib.hid (Stays.trans (a := w) (by (exact Stays.au)) hS1)
  have hs1 := hS1.size
  (try simp at hs1)
  clear hb1
  have z0 : Var 25 w1 w.heap.size _ := Var.stays (by (exact Var.au)) hS1
  have z0l := z0.lt
  obtain ⟨z0c, z0f⟩ := obj_facts z0
  go_wp2_with fail
  refine (accept_any (HR.out.locals (by (exact Locals.au))) [103, 104, 111, 115, 116] (by decide)).mono ?_
  rintro e2 w2 ⟨rfl, hS2, hR2⟩
  have HR := Lib.hid hR2
  have HS := Lib.hid (Stays.trans (a := w) (by (exact Stays.au)) hS2)
  have hs2 := hS2.size
  (try simp at hs2)
  clear hR2
  have z0' : Var 25 w2 w.heap.size _ := Var.stays (by (exact Var.au)) hS2
  clear z0 z0c z0f
  have z0 := z0'
  clear z0'
  have z0l := z0.lt
  obtain ⟨z0c, z0f⟩ := obj_facts z0
  have z1 : Var 25 w2 w1.heap.size _ := Var.stays (by (exact Var.au)) hS2
  have z1l := z1.lt
  obtain ⟨z1c, z1f⟩ := obj_facts z1
  go_wp2_with fail
  rw [storeF z1]
  go_wp2_with fail
  refine (expect_any (HR.out.locals (by (exact Locals.au))) [115, 104, 97, 114, 101, 100] (by decide)).mono ?_
  intro e3 w3 hm3
  refine hm3.cases ?_ ?_
  rotate_left
  focus (intro db sb hrb heb hRb hSb; subst heb; go_wp2_with fail; ((try simp only [Exit.inBlock, Exit.then]); refine post_panic rfl ?_); exact Says.bad (HX.out.trans (Res.bind_of_bad hrb _)) (Stays.trans (a := w) (by (exact Stays.au)) hSb) hRb)
  intro a3 s3 v3 hr3 he3 hv3 hR3 hS3
  subst he3
  have HX := Lib.hid (HX.out.trans (Res.bind_of_ok hr3 _))
  have HR := Lib.hid hR3
  have HS := Lib.hid (Stays.trans (a := w) (by (exact Stays.au)) hS3)
  have Hr3 := Lib.hid hr3
  have hs3 := hS3.size
  (try simp at hs3)
  clear hm3 hr3 hR3
  obtain rfl := hv3
  have z0' : Var 25 w3 w.heap.size _ := Var.stays (by (exact Var.au)) hS3
  clear z0 z0c z0f
  have z0 := z0'
  clear z0'
  have z0l := z0.lt
  obtain ⟨z0c, z0f⟩ := obj_facts z0
  have z1' : Var 25 w3 w1.heap.size _ := Var.stays (by (exact Var.au)) hS3
  clear z1 z1c z1f
  have z1 := z1'
  clear z1'
  have z1l := z1.lt
  obtain ⟨z1c, z1f⟩ := obj_facts z1
  go_wp2_with fail
  refine (name_rd (HR.out.locals (by (exact Locals.au)))).mono ?_
  intro e4 w4 hm4
  refine hm4.cases ?_ ?_
  rotate_left
  focus (intro db sb hrb heb hRb hSb; subst heb; go_wp2_with fail; ((try simp only [Exit.inBlock, Exit.then]); refine post_panic rfl ?_); exact Says.bad (HX.out.trans (Res.bind_of_bad hrb _)) (Stays.trans (a := w) (by (exact Stays.au)) hSb) hRb)
  intro a4 s4 v4 hr4 he4 hv4 hR4 hS4
  subst he4
  have HX := Lib.hid (HX.out.trans (Res.bind_of_ok hr4 _))
  have HR := Lib.hid hR4
  have HS := Lib.hid (Stays.trans (a := w) (by (exact Stays.au)) hS4)
  have Hr4 := Lib.hid hr4
  have hs4 := hS4.size
  (try simp at hs4)
  clear hm4 hr4 hR4
  obtain rfl := hv4
  have z0' : Var 25 w4 w.heap.size _ := Var.stays (by (exact Var.au)) hS4
  clear z0 z0c z0f
  have z0 := z0'
  clear z0'
  have z0l := z0.lt
  obtain ⟨z0c, z0f⟩ := obj_facts z0
  have z1' : Var 25 w4 w1.heap.size _ := Var.stays (by (exact Var.au)) hS4
  clear z1 z1c z1f
  have z1 := z1'
  clear z1'
  have z1l := z1.lt
  obtain ⟨z1c, z1f⟩ := obj_facts z1
  go_wp2_with fail
  rw [storeF z1]
  go_wp2_with fail
  refine (accept_any (HR.out.locals (by (exact Locals.au))) [91] (by decide)).mono ?_
  rintro e5 w5 ⟨rfl, hS5, hR5⟩
  have HR := Lib.hid hR5
  have HS := Lib.hid (Stays.trans (a := w) (by (exact Stays.au)) hS5)
  have hs5 := hS5.size
  (try simp at hs5)
  clear hR5
  have z0' : Var 25 w5 w.heap.size _ := Var.stays (by (exact Var.au)) hS5
  clear z0 z0c z0f
  have z0 := z0'
  clear z0'
  have z0l := z0.lt
  obtain ⟨z0c, z0f⟩ := obj_facts z0
  have z1' : Var 25 w5 w1.heap.size _ := Var.stays (by (exact Var.au)) hS5
  clear z1 z1c z1f
  have z1 := z1'
  clear z1'
  have z1l := z1.lt
  obtain ⟨z1c, z1f⟩ := obj_facts z1
  cases hac : Px.accepts E [91] s4
  · have HR := Lib.hid (show RdAt B E g w5 s4 by have := HR.out; unfold Px.accepted at this; rw [if_neg (by rw [hac]; decide)] at this; exact this)
    have HX := Lib.hid (HX.out.trans (congrArg (fun r => Res.bind r _) (if_neg (by rw [hac]; decide))))
    have HX := Lib.hid ((show R = (Px.Res.ok _ _).bind _ from HX.out).trans (Res.ok_bind _ _ _))
    clear hac
    go_wp2_with fail
    refine (expect_any (HR.out.locals (by (exact Locals.au))) [58] (by decide)).mono ?_
    intro e9 w9 hm9
    refine hm9.cases ?_ ?_
    rotate_left
    focus (intro db sb hrb heb hRb hSb; subst heb; go_wp2_with fail; ((try simp only [Exit.inBlock, Exit.then]); refine post_panic rfl ?_); exact Says.bad (HX.out.trans (Res.bind_of_bad hrb _)) (Stays.trans (a := w) (by (exact Stays.au)) hSb) hRb)
    intro a9 s9 v9 hr9 he9 hv9 hR9 hS9
    subst he9
    have HX := Lib.hid (HX.out.trans (Res.bind_of_ok hr9 _))
    have HR := Lib.hid hR9
    have HS := Lib.hid (Stays.trans (a := w) (by (exact Stays.au)) hS9)
    have Hr9 := Lib.hid hr9
    have hs9 := hS9.size
    (try simp at hs9)
    clear hm9 hr9 hR9
    obtain rfl := hv9
    have z0' : Var 25 w9 w.heap.size _ := Var.stays (by (exact Var.au)) hS9
    clear z0 z0c z0f
    have z0 := z0'
    clear z0'
    have z0l := z0.lt
    obtain ⟨z0c, z0f⟩ := obj_facts z0
    have z1' : Var 25 w9 w1.heap.size _ := Var.stays (by (exact Var.au)) hS9
    clear z1 z1c z1f
    have z1 := z1'
    clear z1'
    have z1l := z1.lt
    obtain ⟨z1c, z1f⟩ := obj_facts z1
    go_wp2_with fail
    refine (peek_any (HR.out.locals (by (exact Locals.au)))).mono ?_
    rintro e10 w10 ⟨rfl, hb10⟩
    unfold tokVal
    have hS10 := (Stays.refl B none _).below hb10 (Nat.le_refl _)
    have HR := Lib.hid (RdAt.of_below (HR.out.locals (by (exact Locals.au))) hb10 (Nat.le_refl _))
    have HS := Lib.hid (Stays.trans (a := w) (by (exact Stays.au)) hS10)
    have hs10 := hS10.size
    (try simp at hs10)
    clear hb10
    have z0' : Var 25 w10 w.heap.size _ := Var.stays (by (exact Var.au)) hS10
    clear z0 z0c z0f
    have z0 := z0'
    clear z0'
    have z0l := z0.lt
    obtain ⟨z0c, z0f⟩ := obj_facts z0
    have z1' : Var 25 w10 w1.heap.size _ := Var.stays (by (exact Var.au)) hS10
    clear z1 z1c z1f
    have z1 := z1'
    clear z1'
    have z1l := z1.lt
    obtain ⟨z1c, z1f⟩ := obj_facts z1
    by_cases hk : Px.kindOf E s9 = 2
    · have hk1 : ((Px.peek E s9).kind : Int) = 2 := by unfold Px.kindOf at hk; omega
      have HX := Lib.hid (HX.out.trans (congrArg (fun r => Px.Res.bind r _) (if_pos hk)))
      have HX := Lib.hid (HX.out.trans (Res.bind_assoc _ _ _))
      clear hk
      rw [hk1]
      go_wp2_with fail
      refine (number_rd (HR.out.locals (by (exact Locals.au)))).mono ?_
      intro e11 w11 hm11
      refine hm11.cases ?_ ?_
      rotate_left
      focus (intro db sb hrb heb hRb hSb; subst heb; go_wp2_with fail; ((try simp only [Exit.inBlock, Exit.then]); refine post_panic rfl ?_); exact Says.bad (HX.out.trans (Res.bind_of_bad hrb _)) (Stays.trans (a := w) (by (exact Stays.au)) hSb) hRb)
      intro a11 s11 v11 hr11 he11 hv11 hR11 hS11
      subst he11
      have HX := Lib.hid (HX.out.trans (Res.bind_of_ok hr11 _))
      have HR := Lib.hid hR11
      have HS := Lib.hid (Stays.trans (a := w) (by (exact Stays.au)) hS11)
      have Hr11 := Lib.hid hr11
      have hs11 := hS11.size
      (try simp at hs11)
      clear hm11 hr11 hR11
      obtain rfl := hv11
      have z0' : Var 25 w11 w.heap.size _ := Var.stays (by (exact Var.au)) hS11
      clear z0 z0c z0f
      have z0 := z0'
      clear z0'
      have z0l := z0.lt
      obtain ⟨z0c, z0f⟩ := obj_facts z0
      have z1' : Var 25 w11 w1.heap.size _ := Var.stays (by (exact Var.au)) hS11
      clear z1 z1c z1f
      have z1 := z1'
      clear z1'
      have z1l := z1.lt
      obtain ⟨z1c, z1f⟩ := obj_facts z1
      have HX := Lib.hid ((show R = (Px.Res.ok _ _).bind _ from HX.out).trans (Res.ok_bind _ _ _))
      go_wp2_with fail
      rw [storeF z1]
      go_wp2_with fail
      refine (accept_any (HR.out.locals (by (exact Locals.au))) [61] (by decide)).mono ?_
      rintro e12 w12 ⟨rfl, hS12, hR12⟩
      have HR := Lib.hid hR12
      have HS := Lib.hid (Stays.trans (a := w) (by (exact Stays.au)) hS12)
      have hs12 := hS12.size
      (try simp at hs12)
      clear hR12
      have z0' : Var 25 w12 w.heap.size _ := Var.stays (by (exact Var.au)) hS12
      clear z0 z0c z0f
      have z0 := z0'
      clear z0'
      have z0l := z0.lt
      obtain ⟨z0c, z0f⟩ := obj_facts z0
      have z1' : Var 25 w12 w1.heap.size _ := Var.stays (by (exact Var.au)) hS12
      clear z1 z1c z1f
      have z1 := z1'
      clear z1'
      have z1l := z1.lt
      obtain ⟨z1c, z1f⟩ := obj_facts z1
      cases hac12 : Px.accepts E [61] s11
      · have HR := Lib.hid (show RdAt B E g w12 s11 by have := HR.out; unfold Px.accepted at this; rw [if_neg (by rw [hac12]; decide)] at this; exact this)
        have HX := Lib.hid (HX.out.trans (congrArg (fun r => Res.bind r _) (if_neg (by rw [hac12]; decide))))
        have HX := Lib.hid ((show R = (Px.Res.ok _ _).bind _ from HX.out).trans (Res.ok_bind _ _ _))
        clear hac12
        go_wp2_with fail
        refine (expect_any (HR.out.locals (by (exact Locals.au))) [59] (by decide)).mono ?_
        intro e14 w14 hm14
        refine hm14.cases ?_ ?_
        rotate_left
        focus (intro db sb hrb heb hRb hSb; subst heb; go_wp2_with fail; ((try simp only [Exit.inBlock, Exit.then]); refine post_panic rfl ?_); exact Says.bad (HX.out.trans (Res.bind_of_bad hrb _)) (Stays.trans (a := w) (by (exact Stays.au)) hSb) hRb)
        intro a14 s14 v14 hr14 he14 hv14 hR14 hS14
        subst he14
        have HX := Lib.hid (HX.out.trans (Res.bind_of_ok hr14 _))
        have HR := Lib.hid hR14
        have HS := Lib.hid (Stays.trans (a := w) (by (exact Stays.au)) hS14)
        have Hr14 := Lib.hid hr14
        have hs14 := hS14.size
        (try simp at hs14)
        clear hm14 hr14 hR14
        obtain rfl := hv14
        have z0' : Var 25 w14 w.heap.size _ := Var.stays (by (exact Var.au)) hS14
        clear z0 z0c z0f
        have z0 := z0'
        clear z0'
        have z0l := z0.lt
        obtain ⟨z0c, z0f⟩ := obj_facts z0
        have z1' : Var 25 w14 w1.heap.size _ := Var.stays (by (exact Var.au)) hS14
        clear z1 z1c z1f
        have z1 := z1'
        clear z1'
        have z1l := z1.lt
        obtain ⟨z1c, z1f⟩ := obj_facts z1
        go_wp2_with fail
        (rw [storeN]; rotate_left; (exact HasN.au))
        ((try simp only [Exit.inBlock, Exit.then]); refine ret_node (by rfl) (by rfl) (by (exact Var.au)) (by first | rfl | simp) (by rfl) ?_)
        refine Says.ok HX.out (by (exact Stays.au)) ⟨none, 0, rfl, Row.nil _ _⟩ (HR.out.locals ?_)
        (exact Locals.au)
      · have HR := Lib.hid (show RdAt B E g w12 (Px.rest s11) by have := HR.out; unfold Px.accepted at this; rw [if_pos hac12] at this; exact this)
        have HX := Lib.hid (HX.out.trans (congrArg (fun r => Res.bind r _) (if_pos hac12)))
        clear hac12
        go_wp2_with fail
        refine (number_rd (HR.out.locals (by (exact Locals.au)))).mono ?_
        intro e13 w13 hm13
        refine hm13.cases ?_ ?_
        rotate_left
        focus (intro db sb hrb heb hRb hSb; subst heb; go_wp2_with fail; ((try simp only [Exit.inBlock, Exit.then]); refine post_panic rfl ?_); exact Says.bad (HX.out.trans (Res.bind_of_bad hrb _)) (Stays.trans (a := w) (by (exact Stays.au)) hSb) hRb)
        intro a13 s13 v13 hr13 he13 hv13 hR13 hS13
        subst he13
        have HX := Lib.hid (HX.out.trans (Res.bind_of_ok hr13 _))
        have HR := Lib.hid hR13
        have HS := Lib.hid (Stays.trans (a := w) (by (exact Stays.au)) hS13)
        have Hr13 := Lib.hid hr13
        have hs13 := hS13.size
        (try simp at hs13)
        clear hm13 hr13 hR13
        obtain rfl := hv13
        have z0' : Var 25 w13 w.heap.size _ := Var.stays (by (exact Var.au)) hS13
        clear z0 z0c z0f
        have z0 := z0'
        clear z0'
        have z0l := z0.lt
        obtain ⟨z0c, z0f⟩ := obj_facts z0
        have z1' : Var 25 w13 w1.heap.size _ := Var.stays (by (exact Var.au)) hS13
        clear z1 z1c z1f
        have z1 := z1'
        clear z1'
        have z1l := z1.lt
        obtain ⟨z1c, z1f⟩ := obj_facts z1
        go_wp2_with fail
        rw [storeF z1]
        go_wp2_with fail
        refine (expect_any (HR.out.locals (by (exact Locals.au))) [59] (by decide)).mono ?_
        intro e14 w14 hm14
        refine hm14.cases ?_ ?_
        rotate_left
        focus (intro db sb hrb heb hRb hSb; subst heb; go_wp2_with fail; ((try simp only [Exit.inBlock, Exit.then]); refine post_panic rfl ?_); exact Says.bad (HX.out.trans (Res.bind_of_bad hrb _)) (Stays.trans (a := w) (by (exact Stays.au)) hSb) hRb)
        intro a14 s14 v14 hr14 he14 hv14 hR14 hS14
        subst he14
        have HX := Lib.hid (HX.out.trans (Res.bind_of_ok hr14 _))
        have HR := Lib.hid hR14
        have HS := Lib.hid (Stays.trans (a := w) (by (exact Stays.au)) hS14)
        have Hr14 := Lib.hid hr14
        have hs14 := hS14.size
        (try simp at hs14)
        clear hm14 hr14 hR14
        obtain rfl := hv14
        have z0' : Var 25 w14 w.heap.size _ := Var.stays (by (exact Var.au)) hS14
        clear z0 z0c z0f
        have z0 := z0'
        clear z0'
        have z0l := z0.lt
        obtain ⟨z0c, z0f⟩ := obj_facts z0
        have z1' : Var 25 w14 w1.heap.size _ := Var.stays (by (exact Var.au)) hS14
        clear z1 z1c z1f
        have z1 := z1'
        clear z1'
        have z1l := z1.lt
        obtain ⟨z1c, z1f⟩ := obj_facts z1
        go_wp2_with fail
        (rw [storeN]; rotate_left; (exact HasN.au))
        ((try simp only [Exit.inBlock, Exit.then]); refine ret_node (by rfl) (by rfl) (by (exact Var.au)) (by first | rfl | simp) (by rfl) ?_)
        refine Says.ok HX.out (by (exact Stays.au)) ⟨none, 0, rfl, Row.nil _ _⟩ (HR.out.locals ?_)
        (exact Locals.au)
    · have hk1 : ¬ ((Px.peek E s9).kind : Int) = 2 := by unfold Px.kindOf at hk; omega
      have HX := Lib.hid (HX.out.trans (congrArg (fun r => Px.Res.bind r _) (if_neg hk)))
      have HX := Lib.hid (HX.out.trans (Res.bind_assoc _ _ _))
      clear hk
      go_wp2_with fail
      refine (name_rd (HR.out.locals (by (exact Locals.au)))).mono ?_
      intro e11 w11 hm11
      refine hm11.cases ?_ ?_
      rotate_left
      focus (intro db sb hrb heb hRb hSb; subst heb; go_wp2_with fail; ((try simp only [Exit.inBlock, Exit.then]); refine post_panic rfl ?_); exact Says.bad (HX.out.trans (Res.bind_of_bad hrb _)) (Stays.trans (a := w) (by (exact Stays.au)) hSb) hRb)
      intro a11 s11 v11 hr11 he11 hv11 hR11 hS11
      subst he11
      have HX := Lib.hid (HX.out.trans (Res.bind_of_ok hr11 _))
      have HR := Lib.hid hR11
      have HS := Lib.hid (Stays.trans (a := w) (by (exact Stays.au)) hS11)
      have Hr11 := Lib.hid hr11
      have hs11 := hS11.size
      (try simp at hs11)
      clear hm11 hr11 hR11
      obtain rfl := hv11
      have z0' : Var 25 w11 w.heap.size _ := Var.stays (by (exact Var.au)) hS11
      clear z0 z0c z0f
      have z0 := z0'
      clear z0'
      have z0l := z0.lt
      obtain ⟨z0c, z0f⟩ := obj_facts z0
      have z1' : Var 25 w11 w1.heap.size _ := Var.stays (by (exact Var.au)) hS11
      clear z1 z1c z1f
      have z1 := z1'
      clear z1'
      have z1l := z1.lt
      obtain ⟨z1c, z1f⟩ := obj_facts z1
      have HX := Lib.hid ((show R = (Px.Res.ok _ _).bind _ from HX.out).trans (Res.ok_bind _ _ _))
      go_wp2_with fail
      rw [storeF z1]
      go_wp2_with fail
      refine (accept_any (HR.out.locals (by (exact Locals.au))) [61] (by decide)).mono ?_
      rintro e12 w12 ⟨rfl, hS12, hR12⟩
      have HR := Lib.hid hR12
      have HS := Lib.hid (Stays.trans (a := w) (by (exact Stays.au)) hS12)
      have hs12 := hS12.size
      (try simp at hs12)
      clear hR12
      have z0' : Var 25 w12 w.heap.size _ := Var.stays (by (exact Var.au)) hS12
      clear z0 z0c z0f
      have z0 := z0'
      clear z0'
      have z0l := z0.lt
      obtain ⟨z0c, z0f⟩ := obj_facts z0
      have z1' : Var 25 w12 w1.heap.size _ := Var.stays (by (exact Var.au)) hS12
      clear z1 z1c z1f
      have z1 := z1'
      clear z1'
      have z1l := z1.lt
      obtain ⟨z1c, z1f⟩ := obj_facts z1
      cases hac12 : Px.accepts E [61] s11
      · have HR := Lib.hid (show RdAt B E g w12 s11 by have := HR.out; unfold Px.accepted at this; rw [if_neg (by rw [hac12]; decide)] at this; exact this)
        have HX := Lib.hid (HX.out.trans (congrArg (fun r => Res.bind r _) (if_neg (by rw [hac12]; decide))))
        have HX := Lib.hid ((show R = (Px.Res.ok _ _).bind _ from HX.out).trans (Res.ok_bind _ _ _))
        clear hac12
        go_wp2_with fail
        refine (expect_any (HR.out.locals (by (exact Locals.au))) [59] (by decide)).mono ?_
        intro e14 w14 hm14
        refine hm14.cases ?_ ?_
        rotate_left
        focus (intro db sb hrb heb hRb hSb; subst heb; go_wp2_with fail; ((try simp only [Exit.inBlock, Exit.then]); refine post_panic rfl ?_); exact Says.bad (HX.out.trans (Res.bind_of_bad hrb _)) (Stays.trans (a := w) (by (exact Stays.au)) hSb) hRb)
        intro a14 s14 v14 hr14 he14 hv14 hR14 hS14
        subst he14
        have HX := Lib.hid (HX.out.trans (Res.bind_of_ok hr14 _))
        have HR := Lib.hid hR14
        have HS := Lib.hid (Stays.trans (a := w) (by (exact Stays.au)) hS14)
        have Hr14 := Lib.hid hr14
        have hs14 := hS14.size
        (try simp at hs14)
        clear hm14 hr14 hR14
        obtain rfl := hv14
        have z0' : Var 25 w14 w.heap.size _ := Var.stays (by (exact Var.au)) hS14
        clear z0 z0c z0f
        have z0 := z0'
        clear z0'
        have z0l := z0.lt
        obtain ⟨z0c, z0f⟩ := obj_facts z0
        have z1' : Var 25 w14 w1.heap.size _ := Var.stays (by (exact Var.au)) hS14
        clear z1 z1c z1f
        have z1 := z1'
        clear z1'
        have z1l := z1.lt
        obtain ⟨z1c, z1f⟩ := obj_facts z1
        go_wp2_with fail
        (rw [storeN]; rotate_left; (exact HasN.au))
        ((try simp only [Exit.inBlock, Exit.then]); refine ret_node (by rfl) (by rfl) (by (exact Var.au)) (by first | rfl | simp) (by rfl) ?_)
        refine Says.ok HX.out (by (exact Stays.au)) ⟨none, 0, rfl, Row.nil _ _⟩ (HR.out.locals ?_)
        (exact Locals.au)
      · have HR := Lib.hid (show RdAt B E g w12 (Px.rest s11) by have := HR.out; unfold Px.accepted at this; rw [if_pos hac12] at this; exact this)
        have HX := Lib.hid (HX.out.trans (congrArg (fun r => Res.bind r _) (if_pos hac12)))
        clear hac12
        go_wp2_with fail
        refine (number_rd (HR.out.locals (by (exact Locals.au)))).mono ?_
        intro e13 w13 hm13
        refine hm13.cases ?_ ?_
        rotate_left
        focus (intro db sb hrb heb hRb hSb; subst heb; go_wp2_with fail; ((try simp only [Exit.inBlock, Exit.then]); refine post_panic rfl ?_); exact Says.bad (HX.out.trans (Res.bind_of_bad hrb _)) (Stays.trans (a := w) (by (exact Stays.au)) hSb) hRb)
        intro a13 s13 v13 hr13 he13 hv13 hR13 hS13
        subst he13
        have HX := Lib.hid (HX.out.trans (Res.bind_of_ok hr13 _))
        have HR := Lib.hid hR13
        have HS := Lib.hid (Stays.trans (a := w) (by (exact Stays.au)) hS13)
        have Hr13 := Lib.hid hr13
        have hs13 := hS13.size
        (try simp at hs13)
        clear hm13 hr13 hR13
        obtain rfl := hv13
        have z0' : Var 25 w13 w.heap.size _ := Var.stays (by (exact Var.au)) hS13
        clear z0 z0c z0f
        have z0 := z0'
        clear z0'
        have z0l := z0.lt
        obtain ⟨z0c, z0f⟩ := obj_facts z0
        have z1' : Var 25 w13 w1.heap.size _ := Var.stays (by (exact Var.au)) hS13
        clear z1 z1c z1f
        have z1 := z1'
        clear z1'
        have z1l := z1.lt
        obtain ⟨z1c, z1f⟩ := obj_facts z1
        go_wp2_with fail
        rw [storeF z1]
        go_wp2_with fail
        refine (expect_any (HR.out.locals (by (exact Locals.au))) [59] (by decide)).mono ?_
        intro e14 w14 hm14
        refine hm14.cases ?_ ?_
        rotate_left
        focus (intro db sb hrb heb hRb hSb; subst heb; go_wp2_with fail; ((try simp only [Exit.inBlock, Exit.then]); refine post_panic rfl ?_); exact Says.bad (HX.out.trans (Res.bind_of_bad hrb _)) (Stays.trans (a := w) (by (exact Stays.au)) hSb) hRb)
        intro a14 s14 v14 hr14 he14 hv14 hR14 hS14
        subst he14
        have HX := Lib.hid (HX.out.trans (Res.bind_of_ok hr14 _))
        have HR := Lib.hid hR14
        have HS := Lib.hid (Stays.trans (a := w) (by (exact Stays.au)) hS14)
        have Hr14 := Lib.hid hr14
        have hs14 := hS14.size
        (try simp at hs14)
        clear hm14 hr14 hR14
        obtain rfl := hv14
        have z0' : Var 25 w14 w.heap.size _ := Var.stays (by (exact Var.au)) hS14
        clear z0 z0c z0f
        have z0 := z0'
        clear z0'
        have z0l := z0.lt
        obtain ⟨z0c, z0f⟩ := obj_facts z0
        have z1' : Var 25 w14 w1.heap.size _ := Var.stays (by (exact Var.au)) hS14
        clear z1 z1c z1f
        have z1 := z1'
        clear z1'
        have z1l := z1.lt
        obtain ⟨z1c, z1f⟩ := obj_facts z1
        go_wp2_with fail
        (rw [storeN]; rotate_left; (exact HasN.au))
        ((try simp only [Exit.inBlock, Exit.then]); refine ret_node (by rfl) (by rfl) (by (exact Var.au)) (by first | rfl | simp) (by rfl) ?_)
        refine Says.ok HX.out (by (exact Stays.au)) ⟨none, 0, rfl, Row.nil _ _⟩ (HR.out.locals ?_)
        (exact Locals.au)
  · have HR := Lib.hid (show RdAt B E g w5 (Px.rest s4) by have := HR.out; unfold Px.accepted at this; rw [if_pos hac] at this; exact this)
    have HX := Lib.hid (HX.out.trans (congrArg (fun r => Res.bind r _) (if_pos hac)))
    have HX := Lib.hid (HX.out.trans (Res.bind_assoc _ _ _))
    clear hac
    go_wp2_with fail
    refine (length_rd (HR.out.locals (by (exact Locals.au)))).mono ?_
    intro e6 w6 hm6
    refine hm6.cases ?_ ?_
    rotate_left
    focus (intro db sb hrb heb hRb hSb; subst heb; go_wp2_with fail; ((try simp only [Exit.inBlock, Exit.then]); refine post_panic rfl ?_); exact Says.bad (HX.out.trans (Res.bind_of_bad hrb _)) (Stays.trans (a := w) (by (exact Stays.au)) hSb) hRb)
    intro a6 s6 v6 hr6 he6 hv6 hR6 hS6
    subst he6
    have HX := Lib.hid (HX.out.trans (Res.bind_of_ok hr6 _))
    have HR := Lib.hid hR6
    have HS := Lib.hid (Stays.trans (a := w) (by (exact Stays.au)) hS6)
    have Hr6 := Lib.hid hr6
    have hs6 := hS6.size
    (try simp at hs6)
    clear hm6 hr6 hR6
    obtain rfl := hv6
    have z0' : Var 25 w6 w.heap.size _ := Var.stays (by (exact Var.au)) hS6
    clear z0 z0c z0f
    have z0 := z0'
    clear z0'
    have z0l := z0.lt
    obtain ⟨z0c, z0f⟩ := obj_facts z0
    have z1' : Var 25 w6 w1.heap.size _ := Var.stays (by (exact Var.au)) hS6
    clear z1 z1c z1f
    have z1 := z1'
    clear z1'
    have z1l := z1.lt
    obtain ⟨z1c, z1f⟩ := obj_facts z1
    have HX := Lib.hid (HX.out.trans (Res.bind_assoc _ _ _))
    go_wp2_with fail
    rw [storeF z1]
    go_wp2_with fail
    refine (expect_any (HR.out.locals (by (exact Locals.au))) [93] (by decide)).mono ?_
    intro e7 w7 hm7
    refine hm7.cases ?_ ?_
    rotate_left
    focus (intro db sb hrb heb hRb hSb; subst heb; go_wp2_with fail; ((try simp only [Exit.inBlock, Exit.then]); refine post_panic rfl ?_); exact Says.bad (HX.out.trans (Res.bind_of_bad hrb _)) (Stays.trans (a := w) (by (exact Stays.au)) hSb) hRb)
    intro a7 s7 v7 hr7 he7 hv7 hR7 hS7
    subst he7
    have HX := Lib.hid (HX.out.trans (Res.bind_of_ok hr7 _))
    have HR := Lib.hid hR7
    have HS := Lib.hid (Stays.trans (a := w) (by (exact Stays.au)) hS7)
    have Hr7 := Lib.hid hr7
    have hs7 := hS7.size
    (try simp at hs7)
    clear hm7 hr7 hR7
    obtain rfl := hv7
    have z0' : Var 25 w7 w.heap.size _ := Var.stays (by (exact Var.au)) hS7
    clear z0 z0c z0f
    have z0 := z0'
    clear z0'
    have z0l := z0.lt
    obtain ⟨z0c, z0f⟩ := obj_facts z0
    have z1' : Var 25 w7 w1.heap.size _ := Var.stays (by (exact Var.au)) hS7
    clear z1 z1c z1f
    have z1 := z1'
    clear z1'
    have z1l := z1.lt
    obtain ⟨z1c, z1f⟩ := obj_facts z1
    have HX := Lib.hid ((show R = (Px.Res.ok _ _).bind _ from HX.out).trans (Res.ok_bind _ _ _))
    go_wp2_with fail
    refine (expect_any (HR.out.locals (by (exact Locals.au))) [58] (by decide)).mono ?_
    intro e9 w9 hm9
    refine hm9.cases ?_ ?_
    rotate_left
    focus (intro db sb hrb heb hRb hSb; subst heb; go_wp2_with fail; ((try simp only [Exit.inBlock, Exit.then]); refine post_panic rfl ?_); exact Says.bad (HX.out.trans (Res.bind_of_bad hrb _)) (Stays.trans (a := w) (by (exact Stays.au)) hSb) hRb)
    intro a9 s9 v9 hr9 he9 hv9 hR9 hS9
    subst he9
    have HX := Lib.hid (HX.out.trans (Res.bind_of_ok hr9 _))
    have HR := Lib.hid hR9
    have HS := Lib.hid (Stays.trans (a := w) (by (exact Stays.au)) hS9)
    have Hr9 := Lib.hid hr9
    have hs9 := hS9.size
    (try simp at hs9)
    clear hm9 hr9 hR9
    obtain rfl := hv9
    have z0' : Var 25 w9 w.heap.size _ := Var.stays (by (exact Var.au)) hS9
    clear z0 z0c z0f
    have z0 := z0'
    clear z0'
    have z0l := z0.lt
    obtain ⟨z0c, z0f⟩ := obj_facts z0
    have z1' : Var 25 w9 w1.heap.size _ := Var.stays (by (exact Var.au)) hS9
    clear z1 z1c z1f
    have z1 := z1'
    clear z1'
    have z1l := z1.lt
    obtain ⟨z1c, z1f⟩ := obj_facts z1
    go_wp2_with fail
    refine (peek_any (HR.out.locals (by (exact Locals.au)))).mono ?_
    rintro e10 w10 ⟨rfl, hb10⟩
    unfold tokVal
    have hS10 := (Stays.refl B none _).below hb10 (Nat.le_refl _)
    have HR := Lib.hid (RdAt.of_below (HR.out.locals (by (exact Locals.au))) hb10 (Nat.le_refl _))
    have HS := Lib.hid (Stays.trans (a := w) (by (exact Stays.au)) hS10)
    have hs10 := hS10.size
    (try simp at hs10)
    clear hb10
    have z0' : Var 25 w10 w.heap.size _ := Var.stays (by (exact Var.au)) hS10
    clear z0 z0c z0f
    have z0 := z0'
    clear z0'
    have z0l := z0.lt
    obtain ⟨z0c, z0f⟩ := obj_facts z0
    have z1' : Var 25 w10 w1.heap.size _ := Var.stays (by (exact Var.au)) hS10
    clear z1 z1c z1f
    have z1 := z1'
    clear z1'
    have z1l := z1.lt
    obtain ⟨z1c, z1f⟩ := obj_facts z1
    by_cases hk : Px.kindOf E s9 = 2
    · have hk1 : ((Px.peek E s9).kind : Int) = 2 := by unfold Px.kindOf at hk; omega
      have HX := Lib.hid (HX.out.trans (congrArg (fun r => Px.Res.bind r _) (if_pos hk)))
      have HX := Lib.hid (HX.out.trans (Res.bind_assoc _ _ _))
      clear hk
      rw [hk1]
      go_wp2_with fail
      refine (number_rd (HR.out.locals (by (exact Locals.au)))).mono ?_
      intro e11 w11 hm11
      refine hm11.cases ?_ ?_
      rotate_left
      focus (intro db sb hrb heb hRb hSb; subst heb; go_wp2_with fail; ((try simp only [Exit.inBlock, Exit.then]); refine post_panic rfl ?_); exact Says.bad (HX.out.trans (Res.bind_of_bad hrb _)) (Stays.trans (a := w) (by (exact Stays.au)) hSb) hRb)
      intro a11 s11 v11 hr11 he11 hv11 hR11 hS11
      subst he11
      have HX := Lib.hid (HX.out.trans (Res.bind_of_ok hr11 _))
      have HR := Lib.hid hR11
      have HS := Lib.hid (Stays.trans (a := w) (by (exact Stays.au)) hS11)
      have Hr11 := Lib.hid hr11
      have hs11 := hS11.size
      (try simp at hs11)
      clear hm11 hr11 hR11
      obtain rfl := hv11
      have z0' : Var 25 w11 w.heap.size _ := Var.stays (by (exact Var.au)) hS11
      clear z0 z0c z0f
      have z0 := z0'
      clear z0'
      have z0l := z0.lt
      obtain ⟨z0c, z0f⟩ := obj_facts z0
      have z1' : Var 25 w11 w1.heap.size _ := Var.stays (by (exact Var.au)) hS11
      clear z1 z1c z1f
      have z1 := z1'
      clear z1'
      have z1l := z1.lt
      obtain ⟨z1c, z1f⟩ := obj_facts z1
      have HX := Lib.hid ((show R = (Px.Res.ok _ _).bind _ from HX.out).trans (Res.ok_bind _ _ _))
      go_wp2_with fail
      rw [storeF z1]
      go_wp2_with fail
      refine (accept_any (HR.out.locals (by (exact Locals.au))) [61] (by decide)).mono ?_
      rintro e12 w12 ⟨rfl, hS12, hR12⟩
      have HR := Lib.hid hR12
      have HS := Lib.hid (Stays.trans (a := w) (by (exact Stays.au)) hS12)
      have hs12 := hS12.size
      (try simp at hs12)
      clear hR12
      have z0' : Var 25 w12 w.heap.size _ := Var.stays (by (exact Var.au)) hS12
      clear z0 z0c z0f
      have z0 := z0'
      clear z0'
      have z0l := z0.lt
      obtain ⟨z0c, z0f⟩ := obj_facts z0
      have z1' : Var 25 w12 w1.heap.size _ := Var.stays (by (exact Var.au)) hS12
      clear z1 z1c z1f
      have z1 := z1'
      clear z1'
      have z1l := z1.lt
      obtain ⟨z1c, z1f⟩ := obj_facts z1
      cases hac12 : Px.accepts E [61] s11
      · have HR := Lib.hid (show RdAt B E g w12 s11 by have := HR.out; unfold Px.accepted at this; rw [if_neg (by rw [hac12]; decide)] at this; exact this)
        have HX := Lib.hid (HX.out.trans (congrArg (fun r => Res.bind r _) (if_neg (by rw [hac12]; decide))))
        have HX := Lib.hid ((show R = (Px.Res.ok _ _).bind _ from HX.out).trans (Res.ok_bind _ _ _))
        clear hac12
        go_wp2_with fail
        refine (expect_any (HR.out.locals (by (exact Locals.au))) [59] (by decide)).mono ?_
        intro e14 w14 hm14
        refine hm14.cases ?_ ?_
        rotate_left
        focus (intro db sb hrb heb hRb hSb; subst heb; go_wp2_with fail; ((try simp only [Exit.inBlock, Exit.then]); refine post_panic rfl ?_); exact Says.bad (HX.out.trans (Res.bind_of_bad hrb _)) (Stays.trans (a := w) (by (exact Stays.au)) hSb) hRb)
        intro a14 s14 v14 hr14 he14 hv14 hR14 hS14
        subst he14
        have HX := Lib.hid (HX.out.trans (Res.bind_of_ok hr14 _))
        have HR := Lib.hid hR14
        have HS := Lib.hid (Stays.trans (a := w) (by (exact Stays.au)) hS14)
        have Hr14 := Lib.hid hr14
        have hs14 := hS14.size
        (try simp at hs14)
        clear hm14 hr14 hR14
        obtain rfl := hv14
        have z0' : Var 25 w14 w.heap.size _ := Var.stays (by (exact Var.au)) hS14
        clear z0 z0c z0f
        have z0 := z0'
        clear z0'
        have z0l := z0.lt
        obtain ⟨z0c, z0f⟩ := obj_facts z0
        have z1' : Var 25 w14 w1.heap.size _ := Var.stays (by (exact Var.au)) hS14
        clear z1 z1c z1f
        have z1 := z1'
        clear z1'
        have z1l := z1.lt
        obtain ⟨z1c, z1f⟩ := obj_facts z1
        go_wp2_with fail
        (rw [storeN]; rotate_left; (exact HasN.au))
        ((try simp only [Exit.inBlock, Exit.then]); refine ret_node (by rfl) (by rfl) (by (exact Var.au)) (by first | rfl | simp) (by rfl) ?_)
        refine Says.ok HX.out (by (exact Stays.au)) ⟨none, 0, rfl, Row.nil _ _⟩ (HR.out.locals ?_)
        (exact Locals.au)
      · have HR := Lib.hid (show RdAt B E g w12 (Px.rest s11) by have := HR.out; unfold Px.accepted at this; rw [if_pos hac12] at this; exact this)
        have HX := Lib.hid (HX.out.trans (congrArg (fun r => Res.bind r _) (if_pos hac12)))
        clear hac12
        go_wp2_with fail
        refine (number_rd (HR.out.locals (by (exact Locals.au)))).mono ?_
        intro e13 w13 hm13
        refine hm13.cases ?_ ?_
        rotate_left
        focus (intro db sb hrb heb hRb hSb; subst heb; go_wp2_with fail; ((try simp only [Exit.inBlock, Exit.then]); refine post_panic rfl ?_); exact Says.bad (HX.out.trans (Res.bind_of_bad hrb _)) (Stays.trans (a := w) (by (exact Stays.au)) hSb) hRb)
        intro a13 s13 v13 hr13 he13 hv13 hR13 hS13
        subst he13
        have HX := Lib.hid (HX.out.trans (Res.bind_of_ok hr13 _))
        have HR := Lib.hid hR13
        have HS := Lib.hid (Stays.trans (a := w) (by (exact Stays.au)) hS13)
        have Hr13 := Lib.hid hr13
        have hs13 := hS13.size
        (try simp at hs13)
        clear hm13 hr13 hR13
        obtain rfl := hv13
        have z0' : Var 25 w13 w.heap.size _ := Var.stays (by (exact Var.au)) hS13
        clear z0 z0c z0f
        have z0 := z0'
        clear z0'
        have z0l := z0.lt
        obtain ⟨z0c, z0f⟩ := obj_facts z0
        have z1' : Var 25 w13 w1.heap.size _ := Var.stays (by (exact Var.au)) hS13
        clear z1 z1c z1f
        have z1 := z1'
        clear z1'
        have z1l := z1.lt
        obtain ⟨z1c, z1f⟩ := obj_facts z1
        go_wp2_with fail
        rw [storeF z1]
        go_wp2_with fail
        refine (expect_any (HR.out.locals (by (exact Locals.au))) [59] (by decide)).mono ?_
        intro e14 w14 hm14
        refine hm14.cases ?_ ?_
        rotate_left
        focus (intro db sb hrb heb hRb hSb; subst heb; go_wp2_with fail; ((try simp only [Exit.inBlock, Exit.then]); refine post_panic rfl ?_); exact Says.bad (HX.out.trans (Res.bind_of_bad hrb _)) (Stays.trans (a := w) (by (exact Stays.au)) hSb) hRb)
        intro a14 s14 v14 hr14 he14 hv14 hR14 hS14
        subst he14
        have HX := Lib.hid (HX.out.trans (Res.bind_of_ok hr14 _))
        have HR := Lib.hid hR14
        have HS := Lib.hid (Stays.trans (a := w) (by (exact Stays.au)) hS14)
        have Hr14 := Lib.hid hr14
        have hs14 := hS14.size
        (try simp at hs14)
        clear hm14 hr14 hR14
        obtain rfl := hv14
        have z0' : Var 25 w14 w.heap.size _ := Var.stays (by (exact Var.au)) hS14
        clear z0 z0c z0f
        have z0 := z0'
        clear z0'
        have z0l := z0.lt
        obtain ⟨z0c, z0f⟩ := obj_facts z0
        have z1' : Var 25 w14 w1.heap.size _ := Var.stays (by (exact Var.au)) hS14
        clear z1 z1c z1f
        have z1 := z1'
        clear z1'
        have z1l := z1.lt
        obtain ⟨z1c, z1f⟩ := obj_facts z1
        go_wp2_with fail
        (rw [storeN]; rotate_left; (exact HasN.au))
        ((try simp only [Exit.inBlock, Exit.then]); refine ret_node (by rfl) (by rfl) (by (exact Var.au)) (by first | rfl | simp) (by rfl) ?_)
        refine Says.ok HX.out (by (exact Stays.au)) ⟨none, 0, rfl, Row.nil _ _⟩ (HR.out.locals ?_)
        (exact Locals.au)
    · have hk1 : ¬ ((Px.peek E s9).kind : Int) = 2 := by unfold Px.kindOf at hk; omega
      have HX := Lib.hid (HX.out.trans (congrArg (fun r => Px.Res.bind r _) (if_neg hk)))
      have HX := Lib.hid (HX.out.trans (Res.bind_assoc _ _ _))
      clear hk
      go_wp2_with fail
      refine (name_rd (HR.out.locals (by (exact Locals.au)))).mono ?_
      intro e11 w11 hm11
      refine hm11.cases ?_ ?_
      rotate_left
      focus (intro db sb hrb heb hRb hSb; subst heb; go_wp2_with fail; ((try simp only [Exit.inBlock, Exit.then]); refine post_panic rfl ?_); exact Says.bad (HX.out.trans (Res.bind_of_bad hrb _)) (Stays.trans (a := w) (by (exact Stays.au)) hSb) hRb)
      intro a11 s11 v11 hr11 he11 hv11 hR11 hS11
      subst he11
      have HX := Lib.hid (HX.out.trans (Res.bind_of_ok hr11 _))
      have HR := Lib.hid hR11
      have HS := Lib.hid (Stays.trans (a := w) (by (exact Stays.au)) hS11)
      have Hr11 := Lib.hid hr11
      have hs11 := hS11.size
      (try simp at hs11)
      clear hm11 hr11 hR11
      obtain rfl := hv11
      have z0' : Var 25 w11 w.heap.size _ := Var.stays (by (exact Var.au)) hS11
      clear z0 z0c z0f
      have z0 := z0'
      clear z0'
      have z0l := z0.lt
      obtain ⟨z0c, z0f⟩ := obj_facts z0
      have z1' : Var 25 w11 w1.heap.size _ := Var.stays (by (exact Var.au)) hS11
      clear z1 z1c z1f
      have z1 := z1'
      clear z1'
      have z1l := z1.lt
      obtain ⟨z1c, z1f⟩ := obj_facts z1
      have HX := Lib.hid ((show R = (Px.Res.ok _ _).bind _ from HX.out).trans (Res.ok_bind _ _ _))
      go_wp2_with fail
      rw [storeF z1]
      go_wp2_with fail
      refine (accept_any (HR.out.locals (by (exact Locals.au))) [61] (by decide)).mono ?_
      rintro e12 w12 ⟨rfl, hS12, hR12⟩
      have HR := Lib.hid hR12
      have HS := Lib.hid (Stays.trans (a := w) (by (exact Stays.au)) hS12)
      have hs12 := hS12.size
      (try simp at hs12)
      clear hR12
      have z0' : Var 25 w12 w.heap.size _ := Var.stays (by (exact Var.au)) hS12
      clear z0 z0c z0f
      have z0 := z0'
      clear z0'
      have z0l := z0.lt
      obtain ⟨z0c, z0f⟩ := obj_facts z0
      have z1' : Var 25 w12 w1.heap.size _ := Var.stays (by (exact Var.au)) hS12
      clear z1 z1c z1f
      have z1 := z1'
      clear z1'
      have z1l := z1.lt
      obtain ⟨z1c, z1f⟩ := obj_facts z1
      cases hac12 : Px.accepts E [61] s11
      · have HR := Lib.hid (show RdAt B E g w12 s11 by have := HR.out; unfold Px.accepted at this; rw [if_neg (by rw [hac12]; decide)] at this; exact this)
        have HX := Lib.hid (HX.out.trans (congrArg (fun r => Res.bind r _) (if_neg (by rw [hac12]; decide))))
        have HX := Lib.hid ((show R = (Px.Res.ok _ _).bind _ from HX.out).trans (Res.ok_bind _ _ _))
        clear hac12
        go_wp2_with fail
        refine (expect_any (HR.out.locals (by (exact Locals.au))) [59] (by decide)).mono ?_
        intro e14 w14 hm14
        refine hm14.cases ?_ ?_
        rotate_left
        focus (intro db sb hrb heb hRb hSb; subst heb; go_wp2_with fail; ((try simp only [Exit.inBlock, Exit.then]); refine post_panic rfl ?_); exact Says.bad (HX.out.trans (Res.bind_of_bad hrb _)) (Stays.trans (a := w) (by (exact Stays.au)) hSb) hRb)
        intro a14 s14 v14 hr14 he14 hv14 hR14 hS14
        subst he14
        have HX := Lib.hid (HX.out.trans (Res.bind_of_ok hr14 _))
        have HR := Lib.hid hR14
        have HS := Lib.hid (Stays.trans (a := w) (by (exact Stays.au)) hS14)
        have Hr14 := Lib.hid hr14
        have hs14 := hS14.size
        (try simp at hs14)
        clear hm14 hr14 hR14
        obtain rfl := hv14
        have z0' : Var 25 w14 w.heap.size _ := Var.stays (by (exact Var.au)) hS14
        clear z0 z0c z0f
        have z0 := z0'
        clear z0'
        have z0l := z0.lt
        obtain ⟨z0c, z0f⟩ := obj_facts z0
        have z1' : Var 25 w14 w1.heap.size _ := Var.stays (by (exact Var.au)) hS14
        clear z1 z1c z1f
        have z1 := z1'
        clear z1'
        have z1l := z1.lt
        obtain ⟨z1c, z1f⟩ := obj_facts z1
        go_wp2_with fail
        (rw [storeN]; rotate_left; (exact HasN.au))
        ((try simp only [Exit.inBlock, Exit.then]); refine ret_node (by rfl) (by rfl) (by (exact Var.au)) (by first | rfl | simp) (by rfl) ?_)
        refine Says.ok HX.out (by (exact Stays.au)) ⟨none, 0, rfl, Row.nil _ _⟩ (HR.out.locals ?_)
        (exact Locals.au)
      · have HR := Lib.hid (show RdAt B E g w12 (Px.rest s11) by have := HR.out; unfold Px.accepted at this; rw [if_pos hac12] at this; exact this)
        have HX := Lib.hid (HX.out.trans (congrArg (fun r => Res.bind r _) (if_pos hac12)))
        clear hac12
        go_wp2_with fail
        refine (number_rd (HR.out.locals (by (exact Locals.au)))).mono ?_
        intro e13 w13 hm13
        refine hm13.cases ?_ ?_
        rotate_left
        focus (intro db sb hrb heb hRb hSb; subst heb; go_wp2_with fail; ((try simp only [Exit.inBlock, Exit.then]); refine post_panic rfl ?_); exact Says.bad (HX.out.trans (Res.bind_of_bad hrb _)) (Stays.trans (a := w) (by (exact Stays.au)) hSb) hRb)
        intro a13 s13 v13 hr13 he13 hv13 hR13 hS13
        subst he13
        have HX := Lib.hid (HX.out.trans (Res.bind_of_ok hr13 _))
        have HR := Lib.hid hR13
        have HS := Lib.hid (Stays.trans (a := w) (by (exact Stays.au)) hS13)
        have Hr13 := Lib.hid hr13
        have hs13 := hS13.size
        (try simp at hs13)
        clear hm13 hr13 hR13
        obtain rfl := hv13
        have z0' : Var 25 w13 w.heap.size _ := Var.stays (by (exact Var.au)) hS13
        clear z0 z0c z0f
        have z0 := z0'
        clear z0'
        have z0l := z0.lt
        obtain ⟨z0c, z0f⟩ := obj_facts z0
        have z1' : Var 25 w13 w1.heap.size _ := Var.stays (by (exact Var.au)) hS13
        clear z1 z1c z1f
        have z1 := z1'
        clear z1'
        have z1l := z1.lt
        obtain ⟨z1c, z1f⟩ := obj_facts z1
        go_wp2_with fail
        rw [storeF z1]
        go_wp2_with fail
        refine (expect_any (HR.out.locals (by (exact Locals.au))) [59] (by decide)).mono ?_
        intro e14 w14 hm14
        refine hm14.cases ?_ ?_
        rotate_left
        focus (intro db sb hrb heb hRb hSb; subst heb; go_wp2_with fail; ((try simp only [Exit.inBlock, Exit.then]); refine post_panic rfl ?_); exact Says.bad (HX.out.trans (Res.bind_of_bad hrb _)) (Stays.trans (a := w) (by (exact Stays.au)) hSb) hRb)
        intro a14 s14 v14 hr14 he14 hv14 hR14 hS14
        subst he14
        have HX := Lib.hid (HX.out.trans (Res.bind_of_ok hr14 _))
        have HR := Lib.hid hR14
        have HS := Lib.hid (Stays.trans (a := w) (by (exact Stays.au)) hS14)
        have Hr14 := Lib.hid hr14
        have hs14 := hS14.size
        (try simp at hs14)
        clear hm14 hr14 hR14
        obtain rfl := hv14
        have z0' : Var 25 w14 w.heap.size _ := Var.stays (by (exact Var.au)) hS14
        clear z0 z0c z0f
        have z0 := z0'
        clear z0'
        have z0l := z0.lt
        obtain ⟨z0c, z0f⟩ := obj_facts z0
        have z1' : Var 25 w14 w1.heap.size _ := Var.stays (by (exact Var.au)) hS14
        clear z1 z1c z1f
        have z1 := z1'
        clear z1'
        have z1l := z1.lt
        obtain ⟨z1c, z1f⟩ := obj_facts z1
        go_wp2_with fail
        (rw [storeN]; rotate_left; (exact HasN.au))
        ((try simp only [Exit.inBlock, Exit.then]); refine ret_node (by rfl) (by rfl) (by (exact Var.au)) (by first | rfl | simp) (by rfl) ?_)
        refine Says.ok HX.out (by (exact Stays.au)) ⟨none, 0, rfl, Row.nil _ _⟩ (HR.out.locals ?_)
        (exact Locals.au)
end Go.Proofs.YtbgpboiblggmiaaGreatDoor

/-
  Walks over declaration.
-/
namespace Go.Proofs.YtbgpboiblggmiaaGreatDoor
open Go.RowKit
open Px (St T D Res left Takes)

set_option maxRecDepth 100000 in
set_option maxHeartbeats 2000000 in
theorem declaration_rd {B E g : Nat} {w : World} {s : St} (h : RdAt B E g w s) (hst : ∀ w' s', RdAt B E g w' s' → Calls Tryz.prog 167 #[.pointer (some ⟨g, 0, none⟩)] w' (Says B E g w' (encT w'.heap.size) (Px.stmt E s'))) :
    Calls Tryz.prog 113 #[.pointer (some ⟨g, 0, none⟩)] w (Says B E g w (encT w.heap.size) (Px.declaration E s)) := by
  have hF := tokF1
  have hlt := h.lt
  have hB := h.le
  have HR := Lib.hid h
  have HS := Lib.hid (Stays.refl B none w)
  clear h
  obtain ⟨R, hR⟩ : ∃ R, R = Px.declaration E s := ⟨_, rfl⟩
  rw [← hR]
  unfold Px.declaration at hR
  have HX := Lib.hid hR
  clear hR
  go_enter Tryz.func113, Tryz.ntmps113
  go_wp2_with fail
  refine (peek_any (HR.out.locals (by (exact Locals.au)))).mono ?_
  rintro e1 w1 ⟨rfl, hb1⟩
  unfold tokVal
  have hS1 := (Stays.refl B none _).below hb1 (Nat.le_refl _)
  have HR := Lib.hid (RdAt.of_below (HR.out.locals (by (exact Locals.au))) hb1 (Nat.le_refl _))
  have HS := Lib.hid (Stays.trans (a := w) (by (exact Stays.au)) hS1)
  have hs1 := hS1.size
  (try simp at hs1)
  clear hb1
  have z0 : Var 25 w1 w.heap.size _ := Var.stays (by (exact Var.au)) hS1
  have z0l := z0.lt
  obtain ⟨z0c, z0f⟩ := obj_facts z0
  cases h1 : Px.accepts E [114, 101, 99, 111, 114, 100] s
  · have HX := Lib.hid (HX.out.trans (if_neg (by rw [h1]; decide)))
    have x1 : ((Px.peek E s).text == [114, 101, 99, 111, 114, 100]) = false := h1
    clear h1
    cases h2 : Px.accepts E [108, 111, 99, 107] s
    · have HX := Lib.hid (HX.out.trans (if_neg (by rw [h2]; decide)))
      have x2 : ((Px.peek E s).text == [108, 111, 99, 107]) = false := h2
      clear h2
      cases h3 : Px.accepts E [114, 101, 108, 121] s
      · have HX := Lib.hid (HX.out.trans (if_neg (by rw [h3]; decide)))
        have x3 : ((Px.peek E s).text == [114, 101, 108, 121]) = false := h3
        clear h3
        cases h4 : Px.accepts E [103, 117, 97, 114, 97, 110, 116, 101, 101] s
        · have HX := Lib.hid (HX.out.trans (if_neg (by rw [h4]; decide)))
          have x4 : ((Px.peek E s).text == [103, 117, 97, 114, 97, 110, 116, 101, 101]) = false := h4
          clear h4
          cases h5 : Px.accepts E [102, 114, 97, 109, 101] s
          · have HX := Lib.hid (HX.out.trans (if_neg (by rw [h5]; decide)))
            have x5 : ((Px.peek E s).text == [102, 114, 97, 109, 101]) = false := h5
            clear h5
            cases h6 : Px.accepts E [112, 114, 111, 99] s
            · have HX := Lib.hid (HX.out.trans (if_neg (by rw [h6]; decide)))
              have x6 : ((Px.peek E s).text == [112, 114, 111, 99]) = false := h6
              clear h6
              have HX := Lib.hid (HX.out.trans (Res.bind_id _).symm)
              go_wp2_with fail
              refine (shared_rd (HR.out.locals (by (exact Locals.au)))).mono ?_
              intro e2 w2 hm2
              refine hm2.cases ?_ ?_
              rotate_left
              focus (intro db sb hrb heb hRb hSb; subst heb; go_wp2_with fail; ((try simp only [Exit.inBlock, Exit.then]); refine post_panic rfl ?_); exact Says.bad (HX.out.trans (Res.bind_of_bad hrb _)) (Stays.trans (a := w) (by (exact Stays.au)) hSb) hRb)
              intro a2 s2 v2 hr2 he2 hv2 hR2 hS2
              subst he2
              have HX := Lib.hid (HX.out.trans (Res.bind_of_ok hr2 _))
              have HR := Lib.hid hR2
              have HS := Lib.hid (Stays.trans (a := w) (by (exact Stays.au)) hS2)
              have Hr2 := Lib.hid hr2
              have hs2 := hS2.size
              (try simp at hs2)
              clear hm2 hr2 hR2
              obtain ⟨p2, c2, rfl, hw2⟩ := hv2
              have Hw2 := Lib.hid hw2.lt
              clear hw2
              unfold nodeVal
              have z0' : Var 25 w2 w.heap.size _ := Var.stays (by (exact Var.au)) hS2
              clear z0 z0c z0f
              have z0 := z0'
              clear z0'
              have z0l := z0.lt
              obtain ⟨z0c, z0f⟩ := obj_facts z0
              go_wp2_with fail
              (rw [storeN]; rotate_left; (exact HasN.au))
              ((try simp only [Exit.inBlock, Exit.then]); refine ret_node (by rfl) (by rfl) (by (exact Var.au)) (by first | rfl | simp) (by rfl) ?_)
              refine Says.ok HX.out (by (exact Stays.au)) ⟨_, _, rfl, (show Row _ _ a2.kids (.slice p2 a2.kids.length c2) from Row.mono (by (have QQ := Hw2; exact Row.au)) ?_)⟩ (HR.out.locals ?_)
              · intro b hb; (try simp at hb); omega
              · (exact Locals.au)
            · have HX := Lib.hid (HX.out.trans (if_pos h6))
              have x6 : ((Px.peek E s).text == [112, 114, 111, 99]) = true := h6
              obtain ⟨t, r, ht⟩ := acc_cons h6 (by decide)
              have Ht := Lib.hid ht
              clear h6 ht
              have HX := Lib.hid (HX.out.trans (Res.bind_id _).symm)
              go_wp2_with fail
              refine (proc_rd (HR.out.locals (by (exact Locals.au))) hst Ht.out).mono ?_
              intro e2 w2 hm2
              refine hm2.cases ?_ ?_
              rotate_left
              focus (intro db sb hrb heb hRb hSb; subst heb; go_wp2_with fail; ((try simp only [Exit.inBlock, Exit.then]); refine post_panic rfl ?_); exact Says.bad (HX.out.trans (Res.bind_of_bad hrb _)) (Stays.trans (a := w) (by (exact Stays.au)) hSb) hRb)
              intro a2 s2 v2 hr2 he2 hv2 hR2 hS2
              subst he2
              have HX := Lib.hid (HX.out.trans (Res.bind_of_ok hr2 _))
              have HR := Lib.hid hR2
              have HS := Lib.hid (Stays.trans (a := w) (by (exact Stays.au)) hS2)
              have Hr2 := Lib.hid hr2
              have hs2 := hS2.size
              (try simp at hs2)
              clear hm2 hr2 hR2
              obtain ⟨p2, c2, rfl, hw2⟩ := hv2
              have Hw2 := Lib.hid hw2.lt
              clear hw2
              unfold nodeVal
              have z0' : Var 25 w2 w.heap.size _ := Var.stays (by (exact Var.au)) hS2
              clear z0 z0c z0f
              have z0 := z0'
              clear z0'
              have z0l := z0.lt
              obtain ⟨z0c, z0f⟩ := obj_facts z0
              go_wp2_with fail
              (rw [storeN]; rotate_left; (exact HasN.au))
              ((try simp only [Exit.inBlock, Exit.then]); refine ret_node (by rfl) (by rfl) (by (exact Var.au)) (by first | rfl | simp) (by rfl) ?_)
              refine Says.ok HX.out (by (exact Stays.au)) ⟨_, _, rfl, (show Row _ _ a2.kids (.slice p2 a2.kids.length c2) from Row.mono (by (have QQ := Hw2; exact Row.au)) ?_)⟩ (HR.out.locals ?_)
              · intro b hb; (try simp at hb); omega
              · (exact Locals.au)
          · have HX := Lib.hid (HX.out.trans (if_pos h5))
            have x5 : ((Px.peek E s).text == [102, 114, 97, 109, 101]) = true := h5
            obtain ⟨t, r, ht⟩ := acc_cons h5 (by decide)
            have Ht := Lib.hid ht
            clear h5 ht
            have HX := Lib.hid (HX.out.trans (Res.bind_id _).symm)
            go_wp2_with fail
            refine (frame_rd (HR.out.locals (by (exact Locals.au))) Ht.out).mono ?_
            intro e2 w2 hm2
            refine hm2.cases ?_ ?_
            rotate_left
            focus (intro db sb hrb heb hRb hSb; subst heb; go_wp2_with fail; ((try simp only [Exit.inBlock, Exit.then]); refine post_panic rfl ?_); exact Says.bad (HX.out.trans (Res.bind_of_bad hrb _)) (Stays.trans (a := w) (by (exact Stays.au)) hSb) hRb)
            intro a2 s2 v2 hr2 he2 hv2 hR2 hS2
            subst he2
            have HX := Lib.hid (HX.out.trans (Res.bind_of_ok hr2 _))
            have HR := Lib.hid hR2
            have HS := Lib.hid (Stays.trans (a := w) (by (exact Stays.au)) hS2)
            have Hr2 := Lib.hid hr2
            have hs2 := hS2.size
            (try simp at hs2)
            clear hm2 hr2 hR2
            obtain ⟨p2, c2, rfl, hw2⟩ := hv2
            have Hw2 := Lib.hid hw2.lt
            clear hw2
            unfold nodeVal
            have z0' : Var 25 w2 w.heap.size _ := Var.stays (by (exact Var.au)) hS2
            clear z0 z0c z0f
            have z0 := z0'
            clear z0'
            have z0l := z0.lt
            obtain ⟨z0c, z0f⟩ := obj_facts z0
            go_wp2_with fail
            (rw [storeN]; rotate_left; (exact HasN.au))
            ((try simp only [Exit.inBlock, Exit.then]); refine ret_node (by rfl) (by rfl) (by (exact Var.au)) (by first | rfl | simp) (by rfl) ?_)
            refine Says.ok HX.out (by (exact Stays.au)) ⟨_, _, rfl, (show Row _ _ a2.kids (.slice p2 a2.kids.length c2) from Row.mono (by (have QQ := Hw2; exact Row.au)) ?_)⟩ (HR.out.locals ?_)
            · intro b hb; (try simp at hb); omega
            · (exact Locals.au)
        · have HX := Lib.hid (HX.out.trans (if_pos h4))
          have x4 : ((Px.peek E s).text == [103, 117, 97, 114, 97, 110, 116, 101, 101]) = true := h4
          obtain ⟨t, r, ht⟩ := acc_cons h4 (by decide)
          have Ht := Lib.hid ht
          clear h4 ht
          have HX := Lib.hid (HX.out.trans (Res.bind_id _).symm)
          go_wp2_with fail
          refine (claim_rd (HR.out.locals (by (exact Locals.au))) 55 Ht.out).mono ?_
          intro e2 w2 hm2
          refine hm2.cases ?_ ?_
          rotate_left
          focus (intro db sb hrb heb hRb hSb; subst heb; go_wp2_with fail; ((try simp only [Exit.inBlock, Exit.then]); refine post_panic rfl ?_); exact Says.bad (HX.out.trans (Res.bind_of_bad hrb _)) (Stays.trans (a := w) (by (exact Stays.au)) hSb) hRb)
          intro a2 s2 v2 hr2 he2 hv2 hR2 hS2
          subst he2
          have HX := Lib.hid (HX.out.trans (Res.bind_of_ok hr2 _))
          have HR := Lib.hid hR2
          have HS := Lib.hid (Stays.trans (a := w) (by (exact Stays.au)) hS2)
          have Hr2 := Lib.hid hr2
          have hs2 := hS2.size
          (try simp at hs2)
          clear hm2 hr2 hR2
          obtain ⟨p2, c2, rfl, hw2⟩ := hv2
          have Hw2 := Lib.hid hw2.lt
          clear hw2
          unfold nodeVal
          have z0' : Var 25 w2 w.heap.size _ := Var.stays (by (exact Var.au)) hS2
          clear z0 z0c z0f
          have z0 := z0'
          clear z0'
          have z0l := z0.lt
          obtain ⟨z0c, z0f⟩ := obj_facts z0
          go_wp2_with fail
          (rw [storeN]; rotate_left; (exact HasN.au))
          ((try simp only [Exit.inBlock, Exit.then]); refine ret_node (by rfl) (by rfl) (by (exact Var.au)) (by first | rfl | simp) (by rfl) ?_)
          refine Says.ok HX.out (by (exact Stays.au)) ⟨_, _, rfl, (show Row _ _ a2.kids (.slice p2 a2.kids.length c2) from Row.mono (by (have QQ := Hw2; exact Row.au)) ?_)⟩ (HR.out.locals ?_)
          · intro b hb; (try simp at hb); omega
          · (exact Locals.au)
      · have HX := Lib.hid (HX.out.trans (if_pos h3))
        have x3 : ((Px.peek E s).text == [114, 101, 108, 121]) = true := h3
        obtain ⟨t, r, ht⟩ := acc_cons h3 (by decide)
        have Ht := Lib.hid ht
        clear h3 ht
        have HX := Lib.hid (HX.out.trans (Res.bind_id _).symm)
        go_wp2_with fail
        refine (claim_rd (HR.out.locals (by (exact Locals.au))) 54 Ht.out).mono ?_
        intro e2 w2 hm2
        refine hm2.cases ?_ ?_
        rotate_left
        focus (intro db sb hrb heb hRb hSb; subst heb; go_wp2_with fail; ((try simp only [Exit.inBlock, Exit.then]); refine post_panic rfl ?_); exact Says.bad (HX.out.trans (Res.bind_of_bad hrb _)) (Stays.trans (a := w) (by (exact Stays.au)) hSb) hRb)
        intro a2 s2 v2 hr2 he2 hv2 hR2 hS2
        subst he2
        have HX := Lib.hid (HX.out.trans (Res.bind_of_ok hr2 _))
        have HR := Lib.hid hR2
        have HS := Lib.hid (Stays.trans (a := w) (by (exact Stays.au)) hS2)
        have Hr2 := Lib.hid hr2
        have hs2 := hS2.size
        (try simp at hs2)
        clear hm2 hr2 hR2
        obtain ⟨p2, c2, rfl, hw2⟩ := hv2
        have Hw2 := Lib.hid hw2.lt
        clear hw2
        unfold nodeVal
        have z0' : Var 25 w2 w.heap.size _ := Var.stays (by (exact Var.au)) hS2
        clear z0 z0c z0f
        have z0 := z0'
        clear z0'
        have z0l := z0.lt
        obtain ⟨z0c, z0f⟩ := obj_facts z0
        go_wp2_with fail
        (rw [storeN]; rotate_left; (exact HasN.au))
        ((try simp only [Exit.inBlock, Exit.then]); refine ret_node (by rfl) (by rfl) (by (exact Var.au)) (by first | rfl | simp) (by rfl) ?_)
        refine Says.ok HX.out (by (exact Stays.au)) ⟨_, _, rfl, (show Row _ _ a2.kids (.slice p2 a2.kids.length c2) from Row.mono (by (have QQ := Hw2; exact Row.au)) ?_)⟩ (HR.out.locals ?_)
        · intro b hb; (try simp at hb); omega
        · (exact Locals.au)
    · have HX := Lib.hid (HX.out.trans (if_pos h2))
      have x2 : ((Px.peek E s).text == [108, 111, 99, 107]) = true := h2
      obtain ⟨t, r, ht⟩ := acc_cons h2 (by decide)
      have Ht := Lib.hid ht
      clear h2 ht
      have HX := Lib.hid (HX.out.trans (Res.bind_id _).symm)
      go_wp2_with fail
      refine (lock_rd (HR.out.locals (by (exact Locals.au))) Ht.out).mono ?_
      intro e2 w2 hm2
      refine hm2.cases ?_ ?_
      rotate_left
      focus (intro db sb hrb heb hRb hSb; subst heb; go_wp2_with fail; ((try simp only [Exit.inBlock, Exit.then]); refine post_panic rfl ?_); exact Says.bad (HX.out.trans (Res.bind_of_bad hrb _)) (Stays.trans (a := w) (by (exact Stays.au)) hSb) hRb)
      intro a2 s2 v2 hr2 he2 hv2 hR2 hS2
      subst he2
      have HX := Lib.hid (HX.out.trans (Res.bind_of_ok hr2 _))
      have HR := Lib.hid hR2
      have HS := Lib.hid (Stays.trans (a := w) (by (exact Stays.au)) hS2)
      have Hr2 := Lib.hid hr2
      have hs2 := hS2.size
      (try simp at hs2)
      clear hm2 hr2 hR2
      obtain ⟨p2, c2, rfl, hw2⟩ := hv2
      have Hw2 := Lib.hid hw2.lt
      clear hw2
      unfold nodeVal
      have z0' : Var 25 w2 w.heap.size _ := Var.stays (by (exact Var.au)) hS2
      clear z0 z0c z0f
      have z0 := z0'
      clear z0'
      have z0l := z0.lt
      obtain ⟨z0c, z0f⟩ := obj_facts z0
      go_wp2_with fail
      (rw [storeN]; rotate_left; (exact HasN.au))
      ((try simp only [Exit.inBlock, Exit.then]); refine ret_node (by rfl) (by rfl) (by (exact Var.au)) (by first | rfl | simp) (by rfl) ?_)
      refine Says.ok HX.out (by (exact Stays.au)) ⟨_, _, rfl, (show Row _ _ a2.kids (.slice p2 a2.kids.length c2) from Row.mono (by (have QQ := Hw2; exact Row.au)) ?_)⟩ (HR.out.locals ?_)
      · intro b hb; (try simp at hb); omega
      · (exact Locals.au)
  · have HX := Lib.hid (HX.out.trans (if_pos h1))
    have x1 : ((Px.peek E s).text == [114, 101, 99, 111, 114, 100]) = true := h1
    obtain ⟨t, r, ht⟩ := acc_cons h1 (by decide)
    have Ht := Lib.hid ht
    clear h1 ht
    have HX := Lib.hid (HX.out.trans (Res.bind_id _).symm)
    go_wp2_with fail
    refine (record_rd (HR.out.locals (by (exact Locals.au))) Ht.out).mono ?_
    intro e2 w2 hm2
    refine hm2.cases ?_ ?_
    rotate_left
    focus (intro db sb hrb heb hRb hSb; subst heb; go_wp2_with fail; ((try simp only [Exit.inBlock, Exit.then]); refine post_panic rfl ?_); exact Says.bad (HX.out.trans (Res.bind_of_bad hrb _)) (Stays.trans (a := w) (by (exact Stays.au)) hSb) hRb)
    intro a2 s2 v2 hr2 he2 hv2 hR2 hS2
    subst he2
    have HX := Lib.hid (HX.out.trans (Res.bind_of_ok hr2 _))
    have HR := Lib.hid hR2
    have HS := Lib.hid (Stays.trans (a := w) (by (exact Stays.au)) hS2)
    have Hr2 := Lib.hid hr2
    have hs2 := hS2.size
    (try simp at hs2)
    clear hm2 hr2 hR2
    obtain ⟨p2, c2, rfl, hw2⟩ := hv2
    have Hw2 := Lib.hid hw2.lt
    clear hw2
    unfold nodeVal
    have z0' : Var 25 w2 w.heap.size _ := Var.stays (by (exact Var.au)) hS2
    clear z0 z0c z0f
    have z0 := z0'
    clear z0'
    have z0l := z0.lt
    obtain ⟨z0c, z0f⟩ := obj_facts z0
    go_wp2_with fail
    (rw [storeN]; rotate_left; (exact HasN.au))
    ((try simp only [Exit.inBlock, Exit.then]); refine ret_node (by rfl) (by rfl) (by (exact Var.au)) (by first | rfl | simp) (by rfl) ?_)
    refine Says.ok HX.out (by (exact Stays.au)) ⟨_, _, rfl, (show Row _ _ a2.kids (.slice p2 a2.kids.length c2) from Row.mono (by (have QQ := Hw2; exact Row.au)) ?_)⟩ (HR.out.locals ?_)
    · intro b hb; (try simp at hb); omega
    · (exact Locals.au)
end Go.Proofs.YtbgpboiblggmiaaGreatDoor

/-
  Walks over statement, given atomic.
-/
namespace Go.Proofs.YtbgpboiblggmiaaGreatDoor
open Go.RowKit
open Px (St T D Res left Takes)

set_option maxRecDepth 100000 in
set_option maxHeartbeats 4000000 in
theorem statement_step {B E g k : Nat} (hat : ∀ w s, RdAt B E g w s → ∀ (t : Lx.Tok) (r : List Lx.Tok), s.toks = t :: r → Calls Tryz.prog 176 #[.pointer (some ⟨g, 0, none⟩)] w (Says B E g w (encT w.heap.size) (Px.atomic E s)))
    (ih : ∀ w s, RdAt B E g w s → left s + 1 ≤ k → Calls Tryz.prog 167 #[.pointer (some ⟨g, 0, none⟩)] w (Says B E g w (encT w.heap.size) (Px.statement E k s)))
    {w : World} {s : St} (h : RdAt B E g w s) (hk : left s + 1 ≤ k + 1) :
    Calls Tryz.prog 167 #[.pointer (some ⟨g, 0, none⟩)] w (Says B E g w (encT w.heap.size) (Px.statement E (k + 1) s)) := by
  have IH := Lib.hid ih
  have Hk := Lib.hid hk
  clear ih hk
  have hF := tokF1
  have hmf : ∀ (fn : Fn) (first cap : Array Value) (w : World), (Instr.makeFunc fn first cap).run Tryz.prog w = .ok (.func fn first cap) w := fun _ _ _ _ => rfl
  have hlt := h.lt
  have hB := h.le
  have HR := Lib.hid h
  have HS := Lib.hid (Stays.refl B none w)
  clear h
  obtain ⟨R, hR⟩ : ∃ R, R = Px.statement E (k + 1) s := ⟨_, rfl⟩
  rw [← hR]
  rw [Px.statement] at hR
  have HX := Lib.hid hR
  clear hR
  go_enter Tryz.func167, Tryz.ntmps167
  go_wp2_with fail
  refine (peek_any (HR.out.locals (by (exact Locals.au)))).mono ?_
  rintro e1 w1 ⟨rfl, hb1⟩
  unfold tokVal
  have hS1 := (Stays.refl B none _).below hb1 (Nat.le_refl _)
  have HR := Lib.hid (RdAt.of_below (HR.out.locals (by (exact Locals.au))) hb1 (Nat.le_refl _))
  have HS := Lib.hid (Stays.trans (a := w) (by (exact Stays.au)) hS1)
  have hs1 := hS1.size
  (try simp at hs1)
  clear hb1
  have z0 : Var 25 w1 w.heap.size _ := Var.stays (by (exact Var.au)) hS1
  have z0l := z0.lt
  obtain ⟨z0c, z0f⟩ := obj_facts z0
  cases h1 : Px.accepts E [97, 115, 115, 101, 114, 116] s
  · have HX := Lib.hid (HX.out.trans (if_neg (by rw [h1]; decide)))
    have x1 : ((Px.peek E s).text == [97, 115, 115, 101, 114, 116]) = false := h1
    clear h1
    cases h2 : Px.accepts E [97, 119, 97, 105, 116] s
    · have HX := Lib.hid (HX.out.trans (if_neg (by rw [h2]; decide)))
      have x2 : ((Px.peek E s).text == [97, 119, 97, 105, 116]) = false := h2
      clear h2
      cases h3 : Px.accepts E [102, 101, 110, 99, 101] s
      · have HX := Lib.hid (HX.out.trans (if_neg (by rw [h3]; decide)))
        have x3 : ((Px.peek E s).text == [102, 101, 110, 99, 101]) = false := h3
        clear h3
        cases h4 : Px.accepts E [115, 107, 105, 112] s
        · have HX := Lib.hid (HX.out.trans (if_neg (by rw [h4]; decide)))
          have x4 : ((Px.peek E s).text == [115, 107, 105, 112]) = false := h4
          clear h4
          cases h5 : Px.accepts E [97, 116, 111, 109, 105, 99] s
          · have HX := Lib.hid (HX.out.trans (if_neg (by rw [h5]; decide)))
            have x5 : ((Px.peek E s).text == [97, 116, 111, 109, 105, 99]) = false := h5
            clear h5
            cases h6 : Px.accepts E [99, 97, 115] s
            · have HX := Lib.hid (HX.out.trans (if_neg (by rw [h6]; decide)))
              have x6 : ((Px.peek E s).text == [99, 97, 115]) = false := h6
              clear h6
              cases h7 : Px.accepts E [97, 99, 113, 117, 105, 114, 101] s
              · have HX := Lib.hid (HX.out.trans (if_neg (by rw [h7]; decide)))
                have x7 : ((Px.peek E s).text == [97, 99, 113, 117, 105, 114, 101]) = false := h7
                clear h7
                cases h8 : Px.accepts E [102, 114, 101, 101] s
                · have HX := Lib.hid (HX.out.trans (if_neg (by rw [h8]; decide)))
                  have x8 : ((Px.peek E s).text == [102, 114, 101, 101]) = false := h8
                  clear h8
                  cases h9 : Px.accepts E [115, 112, 97, 119, 110] s
                  · have HX := Lib.hid (HX.out.trans (if_neg (by rw [h9]; decide)))
                    have x9 : ((Px.peek E s).text == [115, 112, 97, 119, 110]) = false := h9
                    clear h9
                    cases h10 : Px.accepts E [106, 111, 105, 110] s
                    · have HX := Lib.hid (HX.out.trans (if_neg (by rw [h10]; decide)))
                      have x10 : ((Px.peek E s).text == [106, 111, 105, 110]) = false := h10
                      clear h10
                      cases h11 : Px.accepts E [105, 102] s
                      · have HX := Lib.hid (HX.out.trans (if_neg (by rw [h11]; decide)))
                        have x11 : ((Px.peek E s).text == [105, 102]) = false := h11
                        clear h11
                        cases h12 : Px.accepts E [119, 104, 105, 108, 101] s
                        · have HX := Lib.hid (HX.out.trans (if_neg (by rw [h12]; decide)))
                          have x12 : ((Px.peek E s).text == [119, 104, 105, 108, 101]) = false := h12
                          clear h12
                          cases h13 : Px.accepts E [99, 97, 108, 108] s
                          · have HX := Lib.hid (HX.out.trans (if_neg (by rw [h13]; decide)))
                            have x13 : ((Px.peek E s).text == [99, 97, 108, 108]) = false := h13
                            clear h13
                            cases h14 : Px.accepts E [103, 104, 111, 115, 116] s
                            · have x14 : ((Px.peek E s).text == [103, 104, 111, 115, 116]) = false := h14
                              cases h15 : Px.accepts E [108, 111, 99, 97, 108] s
                              · have HX := Lib.hid (HX.out.trans (if_neg (by rw [h14, h15]; decide)))
                                have x15 : ((Px.peek E s).text == [108, 111, 99, 97, 108]) = false := h15
                                clear h14 h15
                                have HX := Lib.hid (HX.out.trans (Res.bind_id _).symm)
                                go_wp2_with fail
                                refine (assignment_rd (HR.out.locals (by (exact Locals.au)))).mono ?_
                                intro e2 w2 hm2
                                refine hm2.cases ?_ ?_
                                rotate_left
                                focus (intro db sb hrb heb hRb hSb; subst heb; go_wp2_with fail; ((try simp only [Exit.inBlock, Exit.then]); refine post_panic rfl ?_); exact Says.bad (HX.out.trans (Res.bind_of_bad hrb _)) (Stays.trans (a := w) (by (exact Stays.au)) hSb) hRb)
                                intro a2 s2 v2 hr2 he2 hv2 hR2 hS2
                                subst he2
                                have HX := Lib.hid (HX.out.trans (Res.bind_of_ok hr2 _))
                                have HR := Lib.hid hR2
                                have HS := Lib.hid (Stays.trans (a := w) (by (exact Stays.au)) hS2)
                                have Hr2 := Lib.hid hr2
                                have hs2 := hS2.size
                                (try simp at hs2)
                                clear hm2 hr2 hR2
                                obtain ⟨p2, c2, rfl, hw2⟩ := hv2
                                have Hw2 := Lib.hid hw2.lt
                                clear hw2
                                unfold nodeVal
                                have z0' : Var 25 w2 w.heap.size _ := Var.stays (by (exact Var.au)) hS2
                                clear z0 z0c z0f
                                have z0 := z0'
                                clear z0'
                                have z0l := z0.lt
                                obtain ⟨z0c, z0f⟩ := obj_facts z0
                                go_wp2_with fail
                                (rw [storeN]; rotate_left; (exact HasN.au))
                                ((try simp only [Exit.inBlock, Exit.then]); refine ret_node (by rfl) (by rfl) (by (exact Var.au)) (by first | rfl | simp) (by rfl) ?_)
                                refine Says.ok HX.out (by (exact Stays.au)) ⟨_, _, rfl, (show Row _ _ a2.kids (.slice p2 a2.kids.length c2) from Row.mono (by (have QQ := Hw2; exact Row.au)) ?_)⟩ (HR.out.locals ?_)
                                · intro b hb; (try simp at hb); omega
                                · (exact Locals.au)
                              · have HX := Lib.hid (HX.out.trans (if_pos (.inr h15)))
                                have x15 : ((Px.peek E s).text == [108, 111, 99, 97, 108]) = true := h15
                                clear h14 h15
                                have HX := Lib.hid (HX.out.trans (Res.bind_id _).symm)
                                go_wp2_with fail
                                refine (local_rd (HR.out.locals (by (exact Locals.au)))).mono ?_
                                intro e2 w2 hm2
                                refine hm2.cases ?_ ?_
                                rotate_left
                                focus (intro db sb hrb heb hRb hSb; subst heb; go_wp2_with fail; ((try simp only [Exit.inBlock, Exit.then]); refine post_panic rfl ?_); exact Says.bad (HX.out.trans (Res.bind_of_bad hrb _)) (Stays.trans (a := w) (by (exact Stays.au)) hSb) hRb)
                                intro a2 s2 v2 hr2 he2 hv2 hR2 hS2
                                subst he2
                                have HX := Lib.hid (HX.out.trans (Res.bind_of_ok hr2 _))
                                have HR := Lib.hid hR2
                                have HS := Lib.hid (Stays.trans (a := w) (by (exact Stays.au)) hS2)
                                have Hr2 := Lib.hid hr2
                                have hs2 := hS2.size
                                (try simp at hs2)
                                clear hm2 hr2 hR2
                                obtain ⟨p2, c2, rfl, hw2⟩ := hv2
                                have Hw2 := Lib.hid hw2.lt
                                clear hw2
                                unfold nodeVal
                                have z0' : Var 25 w2 w.heap.size _ := Var.stays (by (exact Var.au)) hS2
                                clear z0 z0c z0f
                                have z0 := z0'
                                clear z0'
                                have z0l := z0.lt
                                obtain ⟨z0c, z0f⟩ := obj_facts z0
                                go_wp2_with fail
                                (rw [storeN]; rotate_left; (exact HasN.au))
                                ((try simp only [Exit.inBlock, Exit.then]); refine ret_node (by rfl) (by rfl) (by (exact Var.au)) (by first | rfl | simp) (by rfl) ?_)
                                refine Says.ok HX.out (by (exact Stays.au)) ⟨_, _, rfl, (show Row _ _ a2.kids (.slice p2 a2.kids.length c2) from Row.mono (by (have QQ := Hw2; exact Row.au)) ?_)⟩ (HR.out.locals ?_)
                                · intro b hb; (try simp at hb); omega
                                · (exact Locals.au)
                            · have HX := Lib.hid (HX.out.trans (if_pos (.inl h14)))
                              have x14 : ((Px.peek E s).text == [103, 104, 111, 115, 116]) = true := h14
                              clear h14
                              have HX := Lib.hid (HX.out.trans (Res.bind_id _).symm)
                              go_wp2_with fail
                              refine (local_rd (HR.out.locals (by (exact Locals.au)))).mono ?_
                              intro e2 w2 hm2
                              refine hm2.cases ?_ ?_
                              rotate_left
                              focus (intro db sb hrb heb hRb hSb; subst heb; go_wp2_with fail; ((try simp only [Exit.inBlock, Exit.then]); refine post_panic rfl ?_); exact Says.bad (HX.out.trans (Res.bind_of_bad hrb _)) (Stays.trans (a := w) (by (exact Stays.au)) hSb) hRb)
                              intro a2 s2 v2 hr2 he2 hv2 hR2 hS2
                              subst he2
                              have HX := Lib.hid (HX.out.trans (Res.bind_of_ok hr2 _))
                              have HR := Lib.hid hR2
                              have HS := Lib.hid (Stays.trans (a := w) (by (exact Stays.au)) hS2)
                              have Hr2 := Lib.hid hr2
                              have hs2 := hS2.size
                              (try simp at hs2)
                              clear hm2 hr2 hR2
                              obtain ⟨p2, c2, rfl, hw2⟩ := hv2
                              have Hw2 := Lib.hid hw2.lt
                              clear hw2
                              unfold nodeVal
                              have z0' : Var 25 w2 w.heap.size _ := Var.stays (by (exact Var.au)) hS2
                              clear z0 z0c z0f
                              have z0 := z0'
                              clear z0'
                              have z0l := z0.lt
                              obtain ⟨z0c, z0f⟩ := obj_facts z0
                              go_wp2_with fail
                              (rw [storeN]; rotate_left; (exact HasN.au))
                              ((try simp only [Exit.inBlock, Exit.then]); refine ret_node (by rfl) (by rfl) (by (exact Var.au)) (by first | rfl | simp) (by rfl) ?_)
                              refine Says.ok HX.out (by (exact Stays.au)) ⟨_, _, rfl, (show Row _ _ a2.kids (.slice p2 a2.kids.length c2) from Row.mono (by (have QQ := Hw2; exact Row.au)) ?_)⟩ (HR.out.locals ?_)
                              · intro b hb; (try simp at hb); omega
                              · (exact Locals.au)
                          · have HX := Lib.hid (HX.out.trans (if_pos h13))
                            have x13 : ((Px.peek E s).text == [99, 97, 108, 108]) = true := h13
                            obtain ⟨t, r, ht⟩ := acc_cons h13 (by decide)
                            have Ht := Lib.hid ht
                            clear h13 ht
                            have HX := Lib.hid (HX.out.trans (Res.bind_id _).symm)
                            go_wp2_with fail
                            refine (call_rd (HR.out.locals (by (exact Locals.au))) Ht.out).mono ?_
                            intro e2 w2 hm2
                            refine hm2.cases ?_ ?_
                            rotate_left
                            focus (intro db sb hrb heb hRb hSb; subst heb; go_wp2_with fail; ((try simp only [Exit.inBlock, Exit.then]); refine post_panic rfl ?_); exact Says.bad (HX.out.trans (Res.bind_of_bad hrb _)) (Stays.trans (a := w) (by (exact Stays.au)) hSb) hRb)
                            intro a2 s2 v2 hr2 he2 hv2 hR2 hS2
                            subst he2
                            have HX := Lib.hid (HX.out.trans (Res.bind_of_ok hr2 _))
                            have HR := Lib.hid hR2
                            have HS := Lib.hid (Stays.trans (a := w) (by (exact Stays.au)) hS2)
                            have Hr2 := Lib.hid hr2
                            have hs2 := hS2.size
                            (try simp at hs2)
                            clear hm2 hr2 hR2
                            obtain ⟨p2, c2, rfl, hw2⟩ := hv2
                            have Hw2 := Lib.hid hw2.lt
                            clear hw2
                            unfold nodeVal
                            have z0' : Var 25 w2 w.heap.size _ := Var.stays (by (exact Var.au)) hS2
                            clear z0 z0c z0f
                            have z0 := z0'
                            clear z0'
                            have z0l := z0.lt
                            obtain ⟨z0c, z0f⟩ := obj_facts z0
                            go_wp2_with fail
                            (rw [storeN]; rotate_left; (exact HasN.au))
                            ((try simp only [Exit.inBlock, Exit.then]); refine ret_node (by rfl) (by rfl) (by (exact Var.au)) (by first | rfl | simp) (by rfl) ?_)
                            refine Says.ok HX.out (by (exact Stays.au)) ⟨_, _, rfl, (show Row _ _ a2.kids (.slice p2 a2.kids.length c2) from Row.mono (by (have QQ := Hw2; exact Row.au)) ?_)⟩ (HR.out.locals ?_)
                            · intro b hb; (try simp at hb); omega
                            · (exact Locals.au)
                        · have HX := Lib.hid (HX.out.trans (if_pos h12))
                          have x12 : ((Px.peek E s).text == [119, 104, 105, 108, 101]) = true := h12
                          obtain ⟨t, r, ht⟩ := acc_cons h12 (by decide)
                          have Ht := Lib.hid ht
                          have hl := cons_left ht
                          have hk := Hk.out
                          clear h12 ht
                          have HX := Lib.hid (HX.out.trans (Res.bind_id _).symm)
                          go_wp2_with fail
                          refine (loop_rd (HR.out.locals (by (exact Locals.au))) (N := k - 1) (Px.statement E k) (Px.takes_statement k) (fun w s h hn => IH.out w s h (by omega)) (by omega) Ht.out).mono ?_
                          intro e2 w2 hm2
                          refine hm2.cases ?_ ?_
                          rotate_left
                          focus (intro db sb hrb heb hRb hSb; subst heb; go_wp2_with fail; ((try simp only [Exit.inBlock, Exit.then]); refine post_panic rfl ?_); exact Says.bad (HX.out.trans (Res.bind_of_bad hrb _)) (Stays.trans (a := w) (by (exact Stays.au)) hSb) hRb)
                          intro a2 s2 v2 hr2 he2 hv2 hR2 hS2
                          subst he2
                          have HX := Lib.hid (HX.out.trans (Res.bind_of_ok hr2 _))
                          have HR := Lib.hid hR2
                          have HS := Lib.hid (Stays.trans (a := w) (by (exact Stays.au)) hS2)
                          have Hr2 := Lib.hid hr2
                          have hs2 := hS2.size
                          (try simp at hs2)
                          clear hm2 hr2 hR2
                          obtain ⟨p2, c2, rfl, hw2⟩ := hv2
                          have Hw2 := Lib.hid hw2.lt
                          clear hw2
                          unfold nodeVal
                          have z0' : Var 25 w2 w.heap.size _ := Var.stays (by (exact Var.au)) hS2
                          clear z0 z0c z0f
                          have z0 := z0'
                          clear z0'
                          have z0l := z0.lt
                          obtain ⟨z0c, z0f⟩ := obj_facts z0
                          go_wp2_with fail
                          (rw [storeN]; rotate_left; (exact HasN.au))
                          ((try simp only [Exit.inBlock, Exit.then]); refine ret_node (by rfl) (by rfl) (by (exact Var.au)) (by first | rfl | simp) (by rfl) ?_)
                          refine Says.ok HX.out (by (exact Stays.au)) ⟨_, _, rfl, (show Row _ _ a2.kids (.slice p2 a2.kids.length c2) from Row.mono (by (have QQ := Hw2; exact Row.au)) ?_)⟩ (HR.out.locals ?_)
                          · intro b hb; (try simp at hb); omega
                          · (exact Locals.au)
                      · have HX := Lib.hid (HX.out.trans (if_pos h11))
                        have x11 : ((Px.peek E s).text == [105, 102]) = true := h11
                        obtain ⟨t, r, ht⟩ := acc_cons h11 (by decide)
                        have Ht := Lib.hid ht
                        have hl := cons_left ht
                        have hk := Hk.out
                        clear h11 ht
                        have HX := Lib.hid (HX.out.trans (Res.bind_id _).symm)
                        go_wp2_with fail
                        refine (branch_rd (HR.out.locals (by (exact Locals.au))) (N := k - 1) (Px.statement E k) (Px.takes_statement k) (fun w s h hn => IH.out w s h (by omega)) (by omega) Ht.out).mono ?_
                        intro e2 w2 hm2
                        refine hm2.cases ?_ ?_
                        rotate_left
                        focus (intro db sb hrb heb hRb hSb; subst heb; go_wp2_with fail; ((try simp only [Exit.inBlock, Exit.then]); refine post_panic rfl ?_); exact Says.bad (HX.out.trans (Res.bind_of_bad hrb _)) (Stays.trans (a := w) (by (exact Stays.au)) hSb) hRb)
                        intro a2 s2 v2 hr2 he2 hv2 hR2 hS2
                        subst he2
                        have HX := Lib.hid (HX.out.trans (Res.bind_of_ok hr2 _))
                        have HR := Lib.hid hR2
                        have HS := Lib.hid (Stays.trans (a := w) (by (exact Stays.au)) hS2)
                        have Hr2 := Lib.hid hr2
                        have hs2 := hS2.size
                        (try simp at hs2)
                        clear hm2 hr2 hR2
                        obtain ⟨p2, c2, rfl, hw2⟩ := hv2
                        have Hw2 := Lib.hid hw2.lt
                        clear hw2
                        unfold nodeVal
                        have z0' : Var 25 w2 w.heap.size _ := Var.stays (by (exact Var.au)) hS2
                        clear z0 z0c z0f
                        have z0 := z0'
                        clear z0'
                        have z0l := z0.lt
                        obtain ⟨z0c, z0f⟩ := obj_facts z0
                        go_wp2_with fail
                        (rw [storeN]; rotate_left; (exact HasN.au))
                        ((try simp only [Exit.inBlock, Exit.then]); refine ret_node (by rfl) (by rfl) (by (exact Var.au)) (by first | rfl | simp) (by rfl) ?_)
                        refine Says.ok HX.out (by (exact Stays.au)) ⟨_, _, rfl, (show Row _ _ a2.kids (.slice p2 a2.kids.length c2) from Row.mono (by (have QQ := Hw2; exact Row.au)) ?_)⟩ (HR.out.locals ?_)
                        · intro b hb; (try simp at hb); omega
                        · (exact Locals.au)
                    · have HX := Lib.hid (HX.out.trans (if_pos h10))
                      have x10 : ((Px.peek E s).text == [106, 111, 105, 110]) = true := h10
                      obtain ⟨t, r, ht⟩ := acc_cons h10 (by decide)
                      have Ht := Lib.hid ht
                      clear h10 ht
                      have HX := Lib.hid (HX.out.trans (Res.bind_id _).symm)
                      go_wp2_with fail
                      refine (named_rd (HR.out.locals (by (exact Locals.au))) 28 Ht.out 110 (fun _ _ => by simp [go_sem]) (Px.name E) (fun _ _ h => name_rd h)).mono ?_
                      intro e2 w2 hm2
                      refine hm2.cases ?_ ?_
                      rotate_left
                      focus (intro db sb hrb heb hRb hSb; subst heb; go_wp2_with fail; ((try simp only [Exit.inBlock, Exit.then]); refine post_panic rfl ?_); exact Says.bad (HX.out.trans (Res.bind_of_bad hrb _)) (Stays.trans (a := w) (by (exact Stays.au)) hSb) hRb)
                      intro a2 s2 v2 hr2 he2 hv2 hR2 hS2
                      subst he2
                      have HX := Lib.hid (HX.out.trans (Res.bind_of_ok hr2 _))
                      have HR := Lib.hid hR2
                      have HS := Lib.hid (Stays.trans (a := w) (by (exact Stays.au)) hS2)
                      have Hr2 := Lib.hid hr2
                      have hs2 := hS2.size
                      (try simp at hs2)
                      clear hm2 hr2 hR2
                      obtain ⟨p2, c2, rfl, hw2⟩ := hv2
                      have Hw2 := Lib.hid hw2.lt
                      clear hw2
                      unfold nodeVal
                      have z0' : Var 25 w2 w.heap.size _ := Var.stays (by (exact Var.au)) hS2
                      clear z0 z0c z0f
                      have z0 := z0'
                      clear z0'
                      have z0l := z0.lt
                      obtain ⟨z0c, z0f⟩ := obj_facts z0
                      go_wp2_with fail
                      (rw [storeN]; rotate_left; (exact HasN.au))
                      ((try simp only [Exit.inBlock, Exit.then]); refine ret_node (by rfl) (by rfl) (by (exact Var.au)) (by first | rfl | simp) (by rfl) ?_)
                      refine Says.ok HX.out (by (exact Stays.au)) ⟨_, _, rfl, (show Row _ _ a2.kids (.slice p2 a2.kids.length c2) from Row.mono (by (have QQ := Hw2; exact Row.au)) ?_)⟩ (HR.out.locals ?_)
                      · intro b hb; (try simp at hb); omega
                      · (exact Locals.au)
                  · have HX := Lib.hid (HX.out.trans (if_pos h9))
                    have x9 : ((Px.peek E s).text == [115, 112, 97, 119, 110]) = true := h9
                    obtain ⟨t, r, ht⟩ := acc_cons h9 (by decide)
                    have Ht := Lib.hid ht
                    clear h9 ht
                    have HX := Lib.hid (HX.out.trans (Res.bind_id _).symm)
                    go_wp2_with fail
                    refine (named_rd (HR.out.locals (by (exact Locals.au))) 27 Ht.out 110 (fun _ _ => by simp [go_sem]) (Px.name E) (fun _ _ h => name_rd h)).mono ?_
                    intro e2 w2 hm2
                    refine hm2.cases ?_ ?_
                    rotate_left
                    focus (intro db sb hrb heb hRb hSb; subst heb; go_wp2_with fail; ((try simp only [Exit.inBlock, Exit.then]); refine post_panic rfl ?_); exact Says.bad (HX.out.trans (Res.bind_of_bad hrb _)) (Stays.trans (a := w) (by (exact Stays.au)) hSb) hRb)
                    intro a2 s2 v2 hr2 he2 hv2 hR2 hS2
                    subst he2
                    have HX := Lib.hid (HX.out.trans (Res.bind_of_ok hr2 _))
                    have HR := Lib.hid hR2
                    have HS := Lib.hid (Stays.trans (a := w) (by (exact Stays.au)) hS2)
                    have Hr2 := Lib.hid hr2
                    have hs2 := hS2.size
                    (try simp at hs2)
                    clear hm2 hr2 hR2
                    obtain ⟨p2, c2, rfl, hw2⟩ := hv2
                    have Hw2 := Lib.hid hw2.lt
                    clear hw2
                    unfold nodeVal
                    have z0' : Var 25 w2 w.heap.size _ := Var.stays (by (exact Var.au)) hS2
                    clear z0 z0c z0f
                    have z0 := z0'
                    clear z0'
                    have z0l := z0.lt
                    obtain ⟨z0c, z0f⟩ := obj_facts z0
                    go_wp2_with fail
                    (rw [storeN]; rotate_left; (exact HasN.au))
                    ((try simp only [Exit.inBlock, Exit.then]); refine ret_node (by rfl) (by rfl) (by (exact Var.au)) (by first | rfl | simp) (by rfl) ?_)
                    refine Says.ok HX.out (by (exact Stays.au)) ⟨_, _, rfl, (show Row _ _ a2.kids (.slice p2 a2.kids.length c2) from Row.mono (by (have QQ := Hw2; exact Row.au)) ?_)⟩ (HR.out.locals ?_)
                    · intro b hb; (try simp at hb); omega
                    · (exact Locals.au)
                · have HX := Lib.hid (HX.out.trans (if_pos h8))
                  have x8 : ((Px.peek E s).text == [102, 114, 101, 101]) = true := h8
                  obtain ⟨t, r, ht⟩ := acc_cons h8 (by decide)
                  have Ht := Lib.hid ht
                  clear h8 ht
                  have HX := Lib.hid (HX.out.trans (Res.bind_id _).symm)
                  go_wp2_with fail
                  refine (named_rd (HR.out.locals (by (exact Locals.au))) 25 Ht.out 114 (fun _ _ => by simp [go_sem]) (Px.path E) (fun _ _ h => path_rd h)).mono ?_
                  intro e2 w2 hm2
                  refine hm2.cases ?_ ?_
                  rotate_left
                  focus (intro db sb hrb heb hRb hSb; subst heb; go_wp2_with fail; ((try simp only [Exit.inBlock, Exit.then]); refine post_panic rfl ?_); exact Says.bad (HX.out.trans (Res.bind_of_bad hrb _)) (Stays.trans (a := w) (by (exact Stays.au)) hSb) hRb)
                  intro a2 s2 v2 hr2 he2 hv2 hR2 hS2
                  subst he2
                  have HX := Lib.hid (HX.out.trans (Res.bind_of_ok hr2 _))
                  have HR := Lib.hid hR2
                  have HS := Lib.hid (Stays.trans (a := w) (by (exact Stays.au)) hS2)
                  have Hr2 := Lib.hid hr2
                  have hs2 := hS2.size
                  (try simp at hs2)
                  clear hm2 hr2 hR2
                  obtain ⟨p2, c2, rfl, hw2⟩ := hv2
                  have Hw2 := Lib.hid hw2.lt
                  clear hw2
                  unfold nodeVal
                  have z0' : Var 25 w2 w.heap.size _ := Var.stays (by (exact Var.au)) hS2
                  clear z0 z0c z0f
                  have z0 := z0'
                  clear z0'
                  have z0l := z0.lt
                  obtain ⟨z0c, z0f⟩ := obj_facts z0
                  go_wp2_with fail
                  (rw [storeN]; rotate_left; (exact HasN.au))
                  ((try simp only [Exit.inBlock, Exit.then]); refine ret_node (by rfl) (by rfl) (by (exact Var.au)) (by first | rfl | simp) (by rfl) ?_)
                  refine Says.ok HX.out (by (exact Stays.au)) ⟨_, _, rfl, (show Row _ _ a2.kids (.slice p2 a2.kids.length c2) from Row.mono (by (have QQ := Hw2; exact Row.au)) ?_)⟩ (HR.out.locals ?_)
                  · intro b hb; (try simp at hb); omega
                  · (exact Locals.au)
              · have HX := Lib.hid (HX.out.trans (if_pos h7))
                have x7 : ((Px.peek E s).text == [97, 99, 113, 117, 105, 114, 101]) = true := h7
                obtain ⟨t, r, ht⟩ := acc_cons h7 (by decide)
                have Ht := Lib.hid ht
                clear h7 ht
                have HX := Lib.hid (HX.out.trans (Res.bind_id _).symm)
                go_wp2_with fail
                refine (named_rd (HR.out.locals (by (exact Locals.au))) 24 Ht.out 114 (fun _ _ => by simp [go_sem]) (Px.path E) (fun _ _ h => path_rd h)).mono ?_
                intro e2 w2 hm2
                refine hm2.cases ?_ ?_
                rotate_left
                focus (intro db sb hrb heb hRb hSb; subst heb; go_wp2_with fail; ((try simp only [Exit.inBlock, Exit.then]); refine post_panic rfl ?_); exact Says.bad (HX.out.trans (Res.bind_of_bad hrb _)) (Stays.trans (a := w) (by (exact Stays.au)) hSb) hRb)
                intro a2 s2 v2 hr2 he2 hv2 hR2 hS2
                subst he2
                have HX := Lib.hid (HX.out.trans (Res.bind_of_ok hr2 _))
                have HR := Lib.hid hR2
                have HS := Lib.hid (Stays.trans (a := w) (by (exact Stays.au)) hS2)
                have Hr2 := Lib.hid hr2
                have hs2 := hS2.size
                (try simp at hs2)
                clear hm2 hr2 hR2
                obtain ⟨p2, c2, rfl, hw2⟩ := hv2
                have Hw2 := Lib.hid hw2.lt
                clear hw2
                unfold nodeVal
                have z0' : Var 25 w2 w.heap.size _ := Var.stays (by (exact Var.au)) hS2
                clear z0 z0c z0f
                have z0 := z0'
                clear z0'
                have z0l := z0.lt
                obtain ⟨z0c, z0f⟩ := obj_facts z0
                go_wp2_with fail
                (rw [storeN]; rotate_left; (exact HasN.au))
                ((try simp only [Exit.inBlock, Exit.then]); refine ret_node (by rfl) (by rfl) (by (exact Var.au)) (by first | rfl | simp) (by rfl) ?_)
                refine Says.ok HX.out (by (exact Stays.au)) ⟨_, _, rfl, (show Row _ _ a2.kids (.slice p2 a2.kids.length c2) from Row.mono (by (have QQ := Hw2; exact Row.au)) ?_)⟩ (HR.out.locals ?_)
                · intro b hb; (try simp at hb); omega
                · (exact Locals.au)
            · have HX := Lib.hid (HX.out.trans (if_pos h6))
              have x6 : ((Px.peek E s).text == [99, 97, 115]) = true := h6
              obtain ⟨t, r, ht⟩ := acc_cons h6 (by decide)
              have Ht := Lib.hid ht
              clear h6 ht
              have HX := Lib.hid (HX.out.trans (Res.bind_id _).symm)
              go_wp2_with fail
              refine (cas_rd (HR.out.locals (by (exact Locals.au))) Ht.out).mono ?_
              intro e2 w2 hm2
              refine hm2.cases ?_ ?_
              rotate_left
              focus (intro db sb hrb heb hRb hSb; subst heb; go_wp2_with fail; ((try simp only [Exit.inBlock, Exit.then]); refine post_panic rfl ?_); exact Says.bad (HX.out.trans (Res.bind_of_bad hrb _)) (Stays.trans (a := w) (by (exact Stays.au)) hSb) hRb)
              intro a2 s2 v2 hr2 he2 hv2 hR2 hS2
              subst he2
              have HX := Lib.hid (HX.out.trans (Res.bind_of_ok hr2 _))
              have HR := Lib.hid hR2
              have HS := Lib.hid (Stays.trans (a := w) (by (exact Stays.au)) hS2)
              have Hr2 := Lib.hid hr2
              have hs2 := hS2.size
              (try simp at hs2)
              clear hm2 hr2 hR2
              obtain ⟨p2, c2, rfl, hw2⟩ := hv2
              have Hw2 := Lib.hid hw2.lt
              clear hw2
              unfold nodeVal
              have z0' : Var 25 w2 w.heap.size _ := Var.stays (by (exact Var.au)) hS2
              clear z0 z0c z0f
              have z0 := z0'
              clear z0'
              have z0l := z0.lt
              obtain ⟨z0c, z0f⟩ := obj_facts z0
              go_wp2_with fail
              (rw [storeN]; rotate_left; (exact HasN.au))
              ((try simp only [Exit.inBlock, Exit.then]); refine ret_node (by rfl) (by rfl) (by (exact Var.au)) (by first | rfl | simp) (by rfl) ?_)
              refine Says.ok HX.out (by (exact Stays.au)) ⟨_, _, rfl, (show Row _ _ a2.kids (.slice p2 a2.kids.length c2) from Row.mono (by (have QQ := Hw2; exact Row.au)) ?_)⟩ (HR.out.locals ?_)
              · intro b hb; (try simp at hb); omega
              · (exact Locals.au)
          · have HX := Lib.hid (HX.out.trans (if_pos h5))
            have x5 : ((Px.peek E s).text == [97, 116, 111, 109, 105, 99]) = true := h5
            obtain ⟨t, r, ht⟩ := acc_cons h5 (by decide)
            have Ht := Lib.hid ht
            clear h5 ht
            have HX := Lib.hid (HX.out.trans (Res.bind_id _).symm)
            go_wp2_with fail
            refine (hat _ _ (HR.out.locals (by (exact Locals.au))) _ _ Ht.out).mono ?_
            intro e2 w2 hm2
            refine hm2.cases ?_ ?_
            rotate_left
            focus (intro db sb hrb heb hRb hSb; subst heb; go_wp2_with fail; ((try simp only [Exit.inBlock, Exit.then]); refine post_panic rfl ?_); exact Says.bad (HX.out.trans (Res.bind_of_bad hrb _)) (Stays.trans (a := w) (by (exact Stays.au)) hSb) hRb)
            intro a2 s2 v2 hr2 he2 hv2 hR2 hS2
            subst he2
            have HX := Lib.hid (HX.out.trans (Res.bind_of_ok hr2 _))
            have HR := Lib.hid hR2
            have HS := Lib.hid (Stays.trans (a := w) (by (exact Stays.au)) hS2)
            have Hr2 := Lib.hid hr2
            have hs2 := hS2.size
            (try simp at hs2)
            clear hm2 hr2 hR2
            obtain ⟨p2, c2, rfl, hw2⟩ := hv2
            have Hw2 := Lib.hid hw2.lt
            clear hw2
            unfold nodeVal
            have z0' : Var 25 w2 w.heap.size _ := Var.stays (by (exact Var.au)) hS2
            clear z0 z0c z0f
            have z0 := z0'
            clear z0'
            have z0l := z0.lt
            obtain ⟨z0c, z0f⟩ := obj_facts z0
            go_wp2_with fail
            (rw [storeN]; rotate_left; (exact HasN.au))
            ((try simp only [Exit.inBlock, Exit.then]); refine ret_node (by rfl) (by rfl) (by (exact Var.au)) (by first | rfl | simp) (by rfl) ?_)
            refine Says.ok HX.out (by (exact Stays.au)) ⟨_, _, rfl, (show Row _ _ a2.kids (.slice p2 a2.kids.length c2) from Row.mono (by (have QQ := Hw2; exact Row.au)) ?_)⟩ (HR.out.locals ?_)
            · intro b hb; (try simp at hb); omega
            · (exact Locals.au)
        · have HX := Lib.hid (HX.out.trans (if_pos h4))
          have x4 : ((Px.peek E s).text == [115, 107, 105, 112]) = true := h4
          obtain ⟨t, r, ht⟩ := acc_cons h4 (by decide)
          have Ht := Lib.hid ht
          clear h4 ht
          have HX := Lib.hid (HX.out.trans (Res.bind_id _).symm)
          go_wp2_with fail
          refine (bare_rd (HR.out.locals (by (exact Locals.au))) 30 Ht.out).mono ?_
          intro e2 w2 hm2
          refine hm2.cases ?_ ?_
          rotate_left
          focus (intro db sb hrb heb hRb hSb; subst heb; go_wp2_with fail; ((try simp only [Exit.inBlock, Exit.then]); refine post_panic rfl ?_); exact Says.bad (HX.out.trans (Res.bind_of_bad hrb _)) (Stays.trans (a := w) (by (exact Stays.au)) hSb) hRb)
          intro a2 s2 v2 hr2 he2 hv2 hR2 hS2
          subst he2
          have HX := Lib.hid (HX.out.trans (Res.bind_of_ok hr2 _))
          have HR := Lib.hid hR2
          have HS := Lib.hid (Stays.trans (a := w) (by (exact Stays.au)) hS2)
          have Hr2 := Lib.hid hr2
          have hs2 := hS2.size
          (try simp at hs2)
          clear hm2 hr2 hR2
          obtain ⟨p2, c2, rfl, hw2⟩ := hv2
          have Hw2 := Lib.hid hw2.lt
          clear hw2
          unfold nodeVal
          have z0' : Var 25 w2 w.heap.size _ := Var.stays (by (exact Var.au)) hS2
          clear z0 z0c z0f
          have z0 := z0'
          clear z0'
          have z0l := z0.lt
          obtain ⟨z0c, z0f⟩ := obj_facts z0
          go_wp2_with fail
          (rw [storeN]; rotate_left; (exact HasN.au))
          ((try simp only [Exit.inBlock, Exit.then]); refine ret_node (by rfl) (by rfl) (by (exact Var.au)) (by first | rfl | simp) (by rfl) ?_)
          refine Says.ok HX.out (by (exact Stays.au)) ⟨_, _, rfl, (show Row _ _ a2.kids (.slice p2 a2.kids.length c2) from Row.mono (by (have QQ := Hw2; exact Row.au)) ?_)⟩ (HR.out.locals ?_)
          · intro b hb; (try simp at hb); omega
          · (exact Locals.au)
      · have HX := Lib.hid (HX.out.trans (if_pos h3))
        have x3 : ((Px.peek E s).text == [102, 101, 110, 99, 101]) = true := h3
        obtain ⟨t, r, ht⟩ := acc_cons h3 (by decide)
        have Ht := Lib.hid ht
        clear h3 ht
        have HX := Lib.hid (HX.out.trans (Res.bind_id _).symm)
        go_wp2_with fail
        refine (bare_rd (HR.out.locals (by (exact Locals.au))) 26 Ht.out).mono ?_
        intro e2 w2 hm2
        refine hm2.cases ?_ ?_
        rotate_left
        focus (intro db sb hrb heb hRb hSb; subst heb; go_wp2_with fail; ((try simp only [Exit.inBlock, Exit.then]); refine post_panic rfl ?_); exact Says.bad (HX.out.trans (Res.bind_of_bad hrb _)) (Stays.trans (a := w) (by (exact Stays.au)) hSb) hRb)
        intro a2 s2 v2 hr2 he2 hv2 hR2 hS2
        subst he2
        have HX := Lib.hid (HX.out.trans (Res.bind_of_ok hr2 _))
        have HR := Lib.hid hR2
        have HS := Lib.hid (Stays.trans (a := w) (by (exact Stays.au)) hS2)
        have Hr2 := Lib.hid hr2
        have hs2 := hS2.size
        (try simp at hs2)
        clear hm2 hr2 hR2
        obtain ⟨p2, c2, rfl, hw2⟩ := hv2
        have Hw2 := Lib.hid hw2.lt
        clear hw2
        unfold nodeVal
        have z0' : Var 25 w2 w.heap.size _ := Var.stays (by (exact Var.au)) hS2
        clear z0 z0c z0f
        have z0 := z0'
        clear z0'
        have z0l := z0.lt
        obtain ⟨z0c, z0f⟩ := obj_facts z0
        go_wp2_with fail
        (rw [storeN]; rotate_left; (exact HasN.au))
        ((try simp only [Exit.inBlock, Exit.then]); refine ret_node (by rfl) (by rfl) (by (exact Var.au)) (by first | rfl | simp) (by rfl) ?_)
        refine Says.ok HX.out (by (exact Stays.au)) ⟨_, _, rfl, (show Row _ _ a2.kids (.slice p2 a2.kids.length c2) from Row.mono (by (have QQ := Hw2; exact Row.au)) ?_)⟩ (HR.out.locals ?_)
        · intro b hb; (try simp at hb); omega
        · (exact Locals.au)
    · have HX := Lib.hid (HX.out.trans (if_pos h2))
      have x2 : ((Px.peek E s).text == [97, 119, 97, 105, 116]) = true := h2
      obtain ⟨t, r, ht⟩ := acc_cons h2 (by decide)
      have Ht := Lib.hid ht
      clear h2 ht
      have HX := Lib.hid (HX.out.trans (Res.bind_id _).symm)
      go_wp2_with fail
      refine (claim_rd (HR.out.locals (by (exact Locals.au))) 29 Ht.out).mono ?_
      intro e2 w2 hm2
      refine hm2.cases ?_ ?_
      rotate_left
      focus (intro db sb hrb heb hRb hSb; subst heb; go_wp2_with fail; ((try simp only [Exit.inBlock, Exit.then]); refine post_panic rfl ?_); exact Says.bad (HX.out.trans (Res.bind_of_bad hrb _)) (Stays.trans (a := w) (by (exact Stays.au)) hSb) hRb)
      intro a2 s2 v2 hr2 he2 hv2 hR2 hS2
      subst he2
      have HX := Lib.hid (HX.out.trans (Res.bind_of_ok hr2 _))
      have HR := Lib.hid hR2
      have HS := Lib.hid (Stays.trans (a := w) (by (exact Stays.au)) hS2)
      have Hr2 := Lib.hid hr2
      have hs2 := hS2.size
      (try simp at hs2)
      clear hm2 hr2 hR2
      obtain ⟨p2, c2, rfl, hw2⟩ := hv2
      have Hw2 := Lib.hid hw2.lt
      clear hw2
      unfold nodeVal
      have z0' : Var 25 w2 w.heap.size _ := Var.stays (by (exact Var.au)) hS2
      clear z0 z0c z0f
      have z0 := z0'
      clear z0'
      have z0l := z0.lt
      obtain ⟨z0c, z0f⟩ := obj_facts z0
      go_wp2_with fail
      (rw [storeN]; rotate_left; (exact HasN.au))
      ((try simp only [Exit.inBlock, Exit.then]); refine ret_node (by rfl) (by rfl) (by (exact Var.au)) (by first | rfl | simp) (by rfl) ?_)
      refine Says.ok HX.out (by (exact Stays.au)) ⟨_, _, rfl, (show Row _ _ a2.kids (.slice p2 a2.kids.length c2) from Row.mono (by (have QQ := Hw2; exact Row.au)) ?_)⟩ (HR.out.locals ?_)
      · intro b hb; (try simp at hb); omega
      · (exact Locals.au)
  · have HX := Lib.hid (HX.out.trans (if_pos h1))
    have x1 : ((Px.peek E s).text == [97, 115, 115, 101, 114, 116]) = true := h1
    obtain ⟨t, r, ht⟩ := acc_cons h1 (by decide)
    have Ht := Lib.hid ht
    clear h1 ht
    have HX := Lib.hid (HX.out.trans (Res.bind_id _).symm)
    go_wp2_with fail
    refine (claim_rd (HR.out.locals (by (exact Locals.au))) 20 Ht.out).mono ?_
    intro e2 w2 hm2
    refine hm2.cases ?_ ?_
    rotate_left
    focus (intro db sb hrb heb hRb hSb; subst heb; go_wp2_with fail; ((try simp only [Exit.inBlock, Exit.then]); refine post_panic rfl ?_); exact Says.bad (HX.out.trans (Res.bind_of_bad hrb _)) (Stays.trans (a := w) (by (exact Stays.au)) hSb) hRb)
    intro a2 s2 v2 hr2 he2 hv2 hR2 hS2
    subst he2
    have HX := Lib.hid (HX.out.trans (Res.bind_of_ok hr2 _))
    have HR := Lib.hid hR2
    have HS := Lib.hid (Stays.trans (a := w) (by (exact Stays.au)) hS2)
    have Hr2 := Lib.hid hr2
    have hs2 := hS2.size
    (try simp at hs2)
    clear hm2 hr2 hR2
    obtain ⟨p2, c2, rfl, hw2⟩ := hv2
    have Hw2 := Lib.hid hw2.lt
    clear hw2
    unfold nodeVal
    have z0' : Var 25 w2 w.heap.size _ := Var.stays (by (exact Var.au)) hS2
    clear z0 z0c z0f
    have z0 := z0'
    clear z0'
    have z0l := z0.lt
    obtain ⟨z0c, z0f⟩ := obj_facts z0
    go_wp2_with fail
    (rw [storeN]; rotate_left; (exact HasN.au))
    ((try simp only [Exit.inBlock, Exit.then]); refine ret_node (by rfl) (by rfl) (by (exact Var.au)) (by first | rfl | simp) (by rfl) ?_)
    refine Says.ok HX.out (by (exact Stays.au)) ⟨_, _, rfl, (show Row _ _ a2.kids (.slice p2 a2.kids.length c2) from Row.mono (by (have QQ := Hw2; exact Row.au)) ?_)⟩ (HR.out.locals ?_)
    · intro b hb; (try simp at hb); omega
    · (exact Locals.au)

theorem statement_all {B E g : Nat} (hat : ∀ w s, RdAt B E g w s → ∀ (t : Lx.Tok) (r : List Lx.Tok), s.toks = t :: r → Calls Tryz.prog 176 #[.pointer (some ⟨g, 0, none⟩)] w (Says B E g w (encT w.heap.size) (Px.atomic E s))) :
    ∀ k w s, RdAt B E g w s → left s + 1 ≤ k → Calls Tryz.prog 167 #[.pointer (some ⟨g, 0, none⟩)] w (Says B E g w (encT w.heap.size) (Px.statement E k s))
  | 0, _, _, _, hk => absurd hk (by omega)
  | k + 1, _, _, h, hk => statement_step hat (fun w s h hk => statement_all hat k w s h hk) h hk
theorem stmt_rd {B E g : Nat} (hat : ∀ w s, RdAt B E g w s → ∀ (t : Lx.Tok) (r : List Lx.Tok), s.toks = t :: r → Calls Tryz.prog 176 #[.pointer (some ⟨g, 0, none⟩)] w (Says B E g w (encT w.heap.size) (Px.atomic E s))) {w : World} {s : St} (h : RdAt B E g w s) :
    Calls Tryz.prog 167 #[.pointer (some ⟨g, 0, none⟩)] w (Says B E g w (encT w.heap.size) (Px.stmt E s)) := statement_all hat _ w s h (Nat.le_refl _)
end Go.Proofs.YtbgpboiblggmiaaGreatDoor

/-
  Walks over whole.
-/
namespace Go.Proofs.YtbgpboiblggmiaaGreatDoor
open Go.RowKit
open Px (St T D Res left Takes)

set_option maxRecDepth 100000 in
set_option maxHeartbeats 2000000 in
theorem whole_rd {B E g : Nat} {w : World} {s : St} (h : RdAt B E g w s) :
    Calls Tryz.prog 42 #[.pointer (some ⟨g, 0, none⟩)] w (Says B E g w (encT w.heap.size) (Px.whole E s)) := by
  have hlt := h.lt
  have hB := h.le
  have HR := Lib.hid h
  have HS := Lib.hid (Stays.refl B none w)
  clear h
  obtain ⟨R, hR⟩ : ∃ R, R = Px.whole E s := ⟨_, rfl⟩
  rw [← hR]
  unfold Px.whole at hR
  have HX := Lib.hid hR
  clear hR
  go_enter Tryz.func42, Tryz.ntmps42
  go_wp2_with fail
  refine (expr_any (HR.out.locals (by (exact Locals.au)))).mono ?_
  intro e1 w1 hm1
  refine hm1.cases ?_ ?_
  rotate_left
  focus (intro db sb hrb heb hRb hSb; subst heb; go_wp2_with fail; ((try simp only [Exit.inBlock, Exit.then]); refine post_panic rfl ?_); exact Says.bad (HX.out.trans (Res.bind_of_bad hrb _)) (Stays.trans (a := w) (by (exact Stays.au)) hSb) hRb)
  intro a1 s1 v1 hr1 he1 hv1 hR1 hS1
  subst he1
  have HX := Lib.hid (HX.out.trans (Res.bind_of_ok hr1 _))
  have HR := Lib.hid hR1
  have HS := Lib.hid (Stays.trans (a := w) (by (exact Stays.au)) hS1)
  have Hr1 := Lib.hid hr1
  have hs1 := hS1.size
  (try simp at hs1)
  clear hm1 hr1 hR1
  obtain ⟨p1, c1, rfl, hw1⟩ := hv1
  have Hw1 := Lib.hid hw1.lt
  clear hw1
  unfold nodeVal
  have z0 : Var 25 w1 w.heap.size _ := Var.stays (Var.new' (by simp)) hS1
  obtain ⟨z0c, z0f⟩ := obj_facts z0
  have z0l := z0.lt
  go_wp2_with fail
  refine (ended_any (HR.out.locals (by (exact Locals.au)))).mono ?_
  rintro e w2 ⟨rfl, rfl⟩
  cases hs : s1.toks with
  | nil =>
    have HX := Lib.hid (show R = .ok a1 s1 from by have := HX.out; rw [hs] at this; exact this)
    clear hs
    simp only [List.isEmpty_nil]
    go_wp2_with fail
    (rw [storeN]; rotate_left; (exact HasN.au))
    ((try simp only [Exit.inBlock, Exit.then]); refine ret_node (by rfl) (by rfl) (by (exact Var.au)) (by first | rfl | simp) (by rfl) ?_)
    refine Says.ok HX.out (by (exact Stays.au)) ⟨_, _, rfl, (show Row _ _ a1.kids (.slice p1 a1.kids.length c1) from Row.mono (by (have QQ := Hw1; exact Row.au)) ?_)⟩ (HR.out.locals ?_)
    · intro b hb; (try simp at hb); omega
    · (exact Locals.au)
  | cons t r =>
    have HX := Lib.hid (show R = .bad (Px.wrongD E s1) s1 from by have := HX.out; rw [hs] at this; exact this)
    clear hs
    simp only [List.isEmpty_cons]
    go_wp2_with fail
    refine (wrong_any (HR.out.locals (by (exact Locals.au)))).mono ?_
    rintro e wz ⟨rfl, hsz, hrz⟩
    go_wp2_with fail
    ((try simp only [Exit.inBlock, Exit.then]); refine post_panic rfl ?_)
    exact Says.bad HX.out (Stays.trans (a := w) (by (exact Stays.au)) hsz) hrz
end Go.Proofs.YtbgpboiblggmiaaGreatDoor

/-
  What atomic wants: the store of braces, a new row, and a row whose first tree is stored anew.
-/
namespace Go.Proofs.YtbgpboiblggmiaaGreatDoor
open Go.RowKit
open Px (St T D Res left Takes)

theorem braces_all {B E g : Nat} {w0 w : World} {s s0 : St} {b b0 : Nat} {cs c0 : Array Value} {S : Nat → Prop} {l : List T} {kv : Value} (h0 : RdAt B E g w0 s0) (z : Var 25 w b cs) (z0 : Var 25 w b0 c0) (hR : RdAt B E g w s) (hS : Stays B none w0 w) (hrow : RowX S w l kv)
    (hb : b ≠ g) (hb0 : b0 ≠ g) (hs : ¬ S g) (br : Int) (h1 : 0 ≤ br) (h2 : br ≤ 1) :
    ∃ w8, w.setCell ⟨g, 3, none⟩ (.int .i64 br) = w8 ∧ Var 25 w8 b cs ∧ Var 25 w8 b0 c0 ∧ RdAt B E g w8 { s with braces := br } ∧ Stays B none w0 w8 ∧ RowX S w8 l kv ∧ w8.heap.size = w.heap.size := by
  obtain ⟨_, _, hK⟩ := hR.braces
  obtain ⟨ta, tc, km, dv, hB, hg, _⟩ := h0
  exact ⟨_, rfl, obj_cell_other z hb _, obj_cell_other z0 hb0 _, hK w br (Locals.refl _ _) h1 h2, hS.setRd hg hB _, hrow.keep (fun _ h _ => h) (fun i c hi hc => obj_cell_other (p := ⟨g, 3, none⟩) hc (fun e => hs ((show i = g from e) ▸ hi)) _), by simp⟩

theorem RowX.new {S : Nat → Prop} {w : World} {l : List T} {xs : List Value} (h : Nodes S w l xs) (hm : l.length ≤ maxLen) :
    RowX (fun b => S b ∨ b = w.heap.size) (w.alloc (.cells xs.toArray 25)) l (.slice (some ⟨w.heap.size, 0, none⟩) l.length l.length) := by
  refine ⟨xs, ⟨Nodes.len l xs h, .inr ⟨w.heap.size, l.length, xs.toArray, rfl, Nat.zero_le _, obj_new _ _, Nat.le_refl _, hm, by simp [Nodes.len l xs h], by rw [← Nodes.len l xs h]; simp⟩⟩, fun b hb => .inr (by cases hb; rfl), ?_⟩
  exact Nodes.keep (fun b hb hlt => ⟨.inl hb, fun e => by cases e; exact absurd hlt (Nat.lt_irrefl _)⟩) (fun _ _ _ hb => obj_old hb _) l xs h

def head9 (old : Array Value) (c0 c1 c2 c3 c4 c5 c6 c7 c8 : Value) : Array Value :=
  ((((((((old.setIfInBounds 0 c0).setIfInBounds 1 c1).setIfInBounds 2 c2).setIfInBounds 3 c3).setIfInBounds 4 c4).setIfInBounds 5 c5).setIfInBounds 6 c6).setIfInBounds 7 c7).setIfInBounds 8 c8

theorem store_head {w : World} {b : Nat} {old : Array Value} {fz : Nat × Nat} {ty : TypeId} (h : w.heap[b]? = some (.cells old ty fz)) (c0 c1 c2 c3 c4 c5 c6 c7 c8 : Value) :
    (((((((((w.setCell ⟨b, 0, none⟩ c0).setCell ⟨b, 1, none⟩ c1).setCell ⟨b, 2, none⟩ c2).setCell ⟨b, 3, none⟩ c3).setCell ⟨b, 4, none⟩ c4).setCell ⟨b, 5, none⟩ c5).setCell ⟨b, 6, none⟩ c6).setCell ⟨b, 7, none⟩ c7).setCell ⟨b, 8, none⟩ c8) = w.setRow b (head9 old c0 c1 c2 c3 c4 c5 c6 c7 c8) := by
  rw [setCell_eq_setRow _ _ _ _ _ _ _ h]
  simp only [row_setCell h]
  rfl

theorem head9_size (old : Array Value) (c0 c1 c2 c3 c4 c5 c6 c7 c8 : Value) : (head9 old c0 c1 c2 c3 c4 c5 c6 c7 c8).size = old.size := by unfold head9; simp

theorem head9_list {old : Array Value} {x : List Value} {L : List Value} (hx : x.length = 9) (h : old.toList = x ++ L) (c0 c1 c2 c3 c4 c5 c6 c7 c8 : Value) : (head9 old c0 c1 c2 c3 c4 c5 c6 c7 c8).toList = [c0, c1, c2, c3, c4, c5, c6, c7, c8] ++ L := by
  match x, hx with
  | [o0, o1, o2, o3, o4, o5, o6, o7, o8], _ =>
    unfold head9
    simp [h]

/-- a row's first tree is stored anew -/
theorem RowX.head {S : Nat → Prop} {w : World} {t0 : T} {l : List T} {kv : Value} (h : RowX S w (t0 :: l) kv) :
    ∃ gb cap cur, kv = .slice (some ⟨gb, 0, none⟩) (l.length + 1) cap ∧ w.heap[gb]? = some (.cells cur 25 (0, 0)) ∧ 9 ≤ cur.size ∧ S gb ∧
      ∀ (t : T) (tkv : Value), Row (fun b => S b ∧ b ≠ gb) w t.kids tkv →
        RowX S (w.setRow gb (head9 cur (.int .i64 t.kind) (.string ⟨t.name.toArray⟩) (.string ⟨t.other.toArray⟩) (.int .i64 t.n) (.int .i64 t.len) (.int .i64 t.init) (.bool t.ghost) tkv (.int .i64 t.off))) (t :: l) kv := by
  obtain ⟨xs, ⟨hl, hor⟩, hS, hn⟩ := h
  rcases hor with ⟨-, h0⟩ | ⟨gb, cap, cur, rfl, hB, hc, hn1, hm, hsz, htk⟩
  · simp at h0
  · rw [Nodes] at hn
    obtain ⟨k0, rest, rfl, -, hrest⟩ := hn
    have hr := Nodes.len _ _ hrest
    have hz : 9 ≤ cur.size := by rw [hsz]; simp at hn1; omega
    refine ⟨gb, cap, cur, by simp, hc, hz, hS gb rfl, fun t tkv ht => ?_⟩
    have hlist : cur.toList = nodeCells t0 k0 ++ (rest ++ cur.toList.drop ((t0 :: l).length * 9)) := by
      rw [← List.append_assoc, ← htk, List.take_append_drop]
    have h9 := head9_list (x := nodeCells t0 k0) (by simp [nodeCells]) hlist (.int .i64 t.kind) (.string ⟨t.name.toArray⟩) (.string ⟨t.other.toArray⟩) (.int .i64 t.n) (.int .i64 t.len) (.int .i64 t.init) (.bool t.ghost) tkv (.int .i64 t.off)
    refine ⟨nodeCells t tkv ++ rest, ⟨by simp [nodeCells, hr]; omega, .inr ⟨gb, cap, _, rfl, hB, obj_row_same hc _, hn1, hm, by rw [head9_size, hsz], ?_⟩⟩, hS, ?_⟩
    · rw [h9]
      show List.take _ (nodeCells t tkv ++ (rest ++ _)) = _
      rw [← List.append_assoc]
      exact List.take_left' (by simp [nodeCells, hr]; omega)
    · refine nodes_cons ?_ ?_
      · exact ht.keep (fun b hb _ => ⟨hb.1, fun e => hb.2 (by cases e; rfl)⟩) (fun b c hb hbc => obj_row_other hbc hb.2 _)
      · exact Nodes.keep (fun b hb _ => hb) (fun b c hb hbc => obj_row_other hbc (fun e => hb.2 (by rw [e]; rfl)) _) _ _ hrest
end Go.Proofs.YtbgpboiblggmiaaGreatDoor

/-
  Walks over atomic.
-/
namespace Go.Proofs.YtbgpboiblggmiaaGreatDoor
open Go.RowKit
open Px (St T D Res left Takes)

theorem assignsGo_len {E : Nat} : ∀ (k : Nat) (l : List T) (s : St) (l2 : List T) (s2 : St), Px.assignsGo E k l s = .ok l2 s2 → l.length ≤ l2.length
  | 0, l, s, l2, s2, h => by rw [Px.assignsGo] at h; cases h; exact Nat.le_refl _
  | k + 1, l, s, l2, s2, h => by
    rw [Px.assignsGo] at h
    split at h
    · obtain ⟨l1, s1, h1, h2⟩ := Px.bind_inv h
      have := (assign_len h1).1
      have := assignsGo_len k _ _ _ _ h2
      omega
    · cases h; exact Nat.le_refl _
theorem assigns_len {E : Nat} {l l2 : List T} {s s2 : St} (h : Px.assigns E l s = .ok l2 s2) : l.length ≤ l2.length := by
  unfold Px.assigns at h
  obtain ⟨l1, s1, h1, h2⟩ := Px.bind_inv h
  have := (assign_len h1).1
  have := assignsGo_len _ _ _ _ _ h2
  omega

theorem cell_head {w : World} {b : Nat} {cs : Array Value} {t : TypeId} {fz : Nat × Nat} (h : w.heap[b]? = some (.cells cs t fz)) (o : Nat) (ho : o < cs.size) : w.cell? ⟨b, o, none⟩ = some cs[o] := by
  rw [cell_of_obj h]
  exact Array.getElem?_eq_getElem ho
theorem RowX.new' {S : Nat → Prop} {w : World} {l : List T} {xs : List Value} (h : Nodes S w l xs) (hm : l.length ≤ maxLen) {b n : Nat} (hb : b = w.heap.size) (hn : n = l.length) :
    RowX (fun i => S i ∨ i = b) (w.alloc (.cells xs.toArray 25)) l (.slice (some ⟨b, 0, none⟩) n n) := by
  subst hb; subst hn
  exact RowX.new h hm

set_option maxRecDepth 100000 in
set_option maxHeartbeats 1000000 in
theorem atomic_rd {B E g : Nat} {w : World} {s : St} (h : RdAt B E g w s) {t : Lx.Tok} {r : List Lx.Tok} (ht : s.toks = t :: r) :
    Calls Tryz.prog 176 #[.pointer (some ⟨g, 0, none⟩)] w (Says B E g w (encT w.heap.size) (Px.atomic E s)) := by
  obtain ⟨i0, hi, hz0, hz1, hz2⟩ := info_parts infoNode
  have hF := tokF1
  have Ht := Lib.hid ht
  have H0 := Lib.hid h
  clear ht
  have hlt := h.lt
  have hB := h.le
  have HR := Lib.hid h
  have HS := Lib.hid (Stays.refl B none w)
  clear h
  obtain ⟨R, hR⟩ : ∃ R, R = Px.atomic E s := ⟨_, rfl⟩
  rw [← hR]
  unfold Px.atomic at hR
  have HX := Lib.hid hR
  clear hR
  go_enter Tryz.func176, Tryz.ntmps176
  go_wp2_with fail
  refine (begin_rd (HR.out.locals (by (exact Locals.au))) 22 Ht.out).mono ?_
  rintro e1 w1 ⟨rfl, hS1, hR1⟩
  unfold nodeVal
  have HR := Lib.hid hR1
  have HS := Lib.hid (Stays.trans (a := w) (by (exact Stays.au)) hS1)
  have hs1 := hS1.size
  (try simp at hs1)
  clear hR1
  have z0 : Var 25 w1 w.heap.size _ := Var.stays (by (exact Var.au)) hS1
  have z0l := z0.lt
  obtain ⟨z0c, z0f⟩ := obj_facts z0
  go_wp2_with fail
  refine (expect_any (HR.out.locals (by (exact Locals.au))) [123] (by decide)).mono ?_
  intro e3 w3 hm3
  refine hm3.cases ?_ ?_
  rotate_left
  focus (intro db sb hrb heb hRb hSb; subst heb; go_wp2_with fail; ((try simp only [Exit.inBlock, Exit.then]); refine post_panic rfl ?_); exact Says.bad (HX.out.trans (Res.bind_of_bad hrb _)) (Stays.trans (a := w) (by (exact Stays.au)) hSb) hRb)
  intro a3 s3 v3 hr3 he3 hv3 hR3 hS3
  subst he3
  have HX := Lib.hid (HX.out.trans (Res.bind_of_ok hr3 _))
  have HR := Lib.hid hR3
  have HS := Lib.hid (Stays.trans (a := w) (by (exact Stays.au)) hS3)
  have Hr3 := Lib.hid hr3
  have hs3 := hS3.size
  (try simp at hs3)
  clear hm3 hr3 hR3
  obtain rfl := hv3
  have z0' : Var 25 w3 w.heap.size _ := Var.stays (by (exact Var.au)) hS3
  clear z0 z0c z0f
  have z0 := z0'
  clear z0'
  have z0l := z0.lt
  obtain ⟨z0c, z0f⟩ := obj_facts z0
  have z1 : Var 25 w3 w1.heap.size _ := Var.stays (by (exact Var.au)) hS3
  have z1l := z1.lt
  obtain ⟨z1c, z1f⟩ := obj_facts z1
  have hrow0 := RowX.new' (b := w1.heap.size + 1) (n := 1) (S := fun _ => False) (w := w1.alloc (.cells (cells9 (T.of 22 (Px.offOf E s) []) (.slice (some ⟨w1.heap.size + 1, 0, none⟩) 1 1)) 25)) (l := [Px.none (Px.offOf E s)]) (nodes_one (t := Px.none (Px.offOf E s)) (kv := .slice none 0 0) (Row.nil _ _)) (by simp [maxLen]) (by simp) rfl
  have Hrow := Lib.hid (RowX.stays (RowX.mono (S' := fun b => w1.heap.size + 1 ≤ b) hrow0 (fun b hb => by rcases hb with hb | hb; exact hb.elim; omega)) hS3)
  clear hrow0
  obtain ⟨q3, q3f, -⟩ := HR.out.braces
  go_wp2_with fail
  obtain ⟨w4, hw4, z1', z0', hR4, hS4, hrow4, hs4⟩ := braces_all H0.out z1 z0 HR.out HS.out Hrow.out (by omega) (by omega) (by omega) 1 (by decide) (by decide)
  rw [hw4]
  have HR := Lib.hid hR4
  have HS := Lib.hid hS4
  have Hrow := Lib.hid hrow4
  clear hw4 z0 z0c z0f z1 z1c z1f hR4 hS4 hrow4
  have z0 := z0'
  have z1 := z1'
  clear z0' z1'
  obtain ⟨z0c, z0f⟩ := obj_facts z0
  have z0l := z0.lt
  obtain ⟨z1c, z1f⟩ := obj_facts z1
  have z1l := z1.lt
  generalize e4 : ({ s3 with braces := 1 } : St) = s4 at HX HR
  go_wp2_with fail
  refine (peek_any (HR.out.locals (by (exact Locals.au)))).mono ?_
  rintro e5 w5 ⟨rfl, hb5⟩
  unfold tokVal
  have hS5 := (Stays.refl B none _).below hb5 (Nat.le_refl _)
  have HR := Lib.hid (RdAt.of_below (HR.out.locals (by (exact Locals.au))) hb5 (Nat.le_refl _))
  have HS := Lib.hid (Stays.trans (a := w) (by (exact Stays.au)) hS5)
  have hs5 := hS5.size
  (try simp at hs5)
  clear hb5
  have z0' : Var 25 w5 w.heap.size _ := Var.stays (by (exact Var.au)) hS5
  clear z0 z0c z0f
  have z0 := z0'
  clear z0'
  have z0l := z0.lt
  obtain ⟨z0c, z0f⟩ := obj_facts z0
  have z1' : Var 25 w5 w1.heap.size _ := Var.stays (by (exact Var.au)) hS5
  clear z1 z1c z1f
  have z1 := z1'
  clear z1'
  have z1l := z1.lt
  obtain ⟨z1c, z1f⟩ := obj_facts z1
  have Hrow := Lib.hid (Hrow.out.stays hS5)
  go_upto_if 19 with (fail)
  go_cut [] (fun wx => ∃ l s2 a cap, l ≠ [] ∧ R = ((Px.expect E [125] s2).bind fun _ s3 => (if Px.accepts E [119, 104, 101, 110] s3 then (Px.expr E (Px.rest { s3 with braces := 0 })).bind fun g s4 => .ok (g :: l.tail) s4 else .ok l { s3 with braces := 0 }).bind fun l s5 => (Px.expect E [59] s5).bind fun _ s6 => .ok (T.of 22 (Px.offOf E s) l) s6) ∧ Under B E g w w.heap.size w1.heap.size zero9 (cells9 (T.of 22 (Px.offOf E s) [])) l l.length s2 a cap wx)
  case first =>
    cases h1 : Px.accepts E [125] s3
    · have x1 : ((Px.peek E s4).text == [125]) = false := by rw [← e4]; exact h1
      rw [x1, Bool.not_false]
      have HX := Lib.hid (HX.out.trans (congrArg (fun r => Px.Res.bind r _) (if_neg (by rw [h1]; decide))))
      clear h1
      go_wp2_with fail
      refine (assigns_rd (lo := w1.heap.size + 1) HR.out (l := [Px.none (Px.offOf E s)]) (a := some ⟨w1.heap.size + 1, 0, none⟩) (cap := 1) Hrow.out (by omega) (by omega) (by simp)).mono ?_
      intro e6 w6 hm6
      refine hm6.cases ?_ ?_
      rotate_left
      focus (intro db sb hrb heb hRb hSb; subst heb; go_wp2_with fail; ((try simp only [Exit.inBlock, Exit.then]); refine post_panic rfl ?_); exact Says.bad (HX.out.trans (Res.bind_of_bad hrb _)) (Stays.trans_new (x := none) (a := w) HS.out hSb (fun i hi => by have := Hrow.out.row.own i hi; omega)) hRb)
      intro l6 s6 a6 c6 hr6 he6 hw6 hx6 hR6 hS6
      subst he6
      have HX := Lib.hid (HX.out.trans (Res.bind_of_ok hr6 _))
      have HR := Lib.hid hR6
      have HS := Lib.hid (Stays.trans_new (x := none) (a := w) HS.out hS6 (fun i hi => by have := Hrow.out.row.own i hi; omega))
      have z0' := Var.staysO z0 hS6 (fun e => by have := Hrow.out.row.own _ e; omega)
      have z1' := Var.staysO z1 hS6 (fun e => by have := Hrow.out.row.own _ e; omega)
      clear z0 z0c z0f z1 z1c z1f
      have z0 := z0'
      have z1 := z1'
      clear z0' z1'
      obtain ⟨z0c, z0f⟩ := obj_facts z0
      have z0l := z0.lt
      obtain ⟨z1c, z1f⟩ := obj_facts z1
      have z1l := z1.lt
      have hne : l6 ≠ [] := by have := assigns_len hr6; intro e; subst e; simp at this
      have Hw6 := Lib.hid hw6
      go_wp2_with fail
      go_meet
      exact ⟨l6, s6, _, _, hne, HX.out, Under.put (fun _ _ => rfl) HR.out HS.out hlt (Nat.le_refl _) (by omega) z0 z1 Hw6.out⟩
    · have x1 : ((Px.peek E s4).text == [125]) = true := by rw [← e4]; exact h1
      rw [x1, Bool.not_true]
      have HX := Lib.hid (HX.out.trans (congrArg (fun r => Px.Res.bind r _) (if_pos h1)))
      have HX := Lib.hid ((show R = (Px.Res.ok _ _).bind _ from HX.out).trans (Res.ok_bind _ _ _))
      clear h1
      go_wp2_with fail
      go_meet
      exact ⟨[Px.none (Px.offOf E s)], s4, _, _, by simp, HX.out, ⟨HR.out, HS.out, z0, z1, Hrow.out⟩⟩
  case rest =>
    obtain ⟨a6, s6, p6, c6, hne6, hX6, hu6⟩ := hcut
    obtain ⟨w6, hw6⟩ : ∃ w6, w6 = wc := ⟨_, rfl⟩
    subst hw6
    have HX := Lib.hid hX6
    have HR := Lib.hid hu6.rd
    have HS := Lib.hid hu6.stays
    have Hrow := Lib.hid hu6.row
    have z0 := hu6.v0
    have z1 := hu6.v1
    unfold zero9 at z0
    unfold cells9 at z1
    clear hu6 hX6
    obtain ⟨z0c, z0f⟩ := obj_facts z0
    have z0l := z0.lt
    obtain ⟨z1c, z1f⟩ := obj_facts z1
    have z1l := z1.lt
    go_wp2_with fail
    refine (expect_any (HR.out.locals (by (exact Locals.au))) [125] (by decide)).mono ?_
    intro e7 w7 hm7
    refine hm7.cases ?_ ?_
    rotate_left
    focus (intro db sb hrb heb hRb hSb; subst heb; go_wp2_with fail; ((try simp only [Exit.inBlock, Exit.then]); refine post_panic rfl ?_); exact Says.bad (HX.out.trans (Res.bind_of_bad hrb _)) (Stays.trans (a := w) (by (exact Stays.au)) hSb) hRb)
    intro a7 s7 v7 hr7 he7 hv7 hR7 hS7
    subst he7
    have HX := Lib.hid (HX.out.trans (Res.bind_of_ok hr7 _))
    have HR := Lib.hid hR7
    have HS := Lib.hid (Stays.trans (a := w) (by (exact Stays.au)) hS7)
    have Hr7 := Lib.hid hr7
    have hs7 := hS7.size
    (try simp at hs7)
    clear hm7 hr7 hR7
    obtain rfl := hv7
    have z0' : Var 25 w7 w.heap.size _ := Var.stays (by (exact Var.au)) hS7
    clear z0 z0c z0f
    have z0 := z0'
    clear z0'
    have z0l := z0.lt
    obtain ⟨z0c, z0f⟩ := obj_facts z0
    have z1' : Var 25 w7 w1.heap.size _ := Var.stays (by (exact Var.au)) hS7
    clear z1 z1c z1f
    have z1 := z1'
    clear z1'
    have z1l := z1.lt
    obtain ⟨z1c, z1f⟩ := obj_facts z1
    have Hrow := Lib.hid (Hrow.out.stays hS7)
    obtain ⟨q3, q3f, -⟩ := HR.out.braces
    go_wp2_with fail
    obtain ⟨w8, hw8, z1', z0', hR8, hS8, hrow8, hs8⟩ := braces_all H0.out z1 z0 HR.out HS.out Hrow.out (by omega) (by omega) (by omega) 0 (by decide) (by decide)
    rw [hw8]
    have HR := Lib.hid hR8
    have HS := Lib.hid hS8
    have Hrow := Lib.hid hrow8
    clear hw8 z0 z0c z0f z1 z1c z1f hR8 hS8 hrow8
    have z0 := z0'
    have z1 := z1'
    clear z0' z1'
    obtain ⟨z0c, z0f⟩ := obj_facts z0
    have z0l := z0.lt
    obtain ⟨z1c, z1f⟩ := obj_facts z1
    have z1l := z1.lt
    generalize e8 : ({ s7 with braces := 0 } : St) = s8 at HX HR
    go_wp2_with fail
    refine (accept_any (HR.out.locals (by (exact Locals.au))) [119, 104, 101, 110] (by decide)).mono ?_
    rintro e9 w9 ⟨rfl, hS9, hR9⟩
    have HR := Lib.hid hR9
    have HS := Lib.hid (Stays.trans (a := w) (by (exact Stays.au)) hS9)
    have hs9 := hS9.size
    (try simp at hs9)
    clear hR9
    have z0' : Var 25 w9 w.heap.size _ := Var.stays (by (exact Var.au)) hS9
    clear z0 z0c z0f
    have z0 := z0'
    clear z0'
    have z0l := z0.lt
    obtain ⟨z0c, z0f⟩ := obj_facts z0
    have z1' : Var 25 w9 w1.heap.size _ := Var.stays (by (exact Var.au)) hS9
    clear z1 z1c z1f
    have z1 := z1'
    clear z1'
    have z1l := z1.lt
    obtain ⟨z1c, z1f⟩ := obj_facts z1
    have Hrow := Lib.hid (Hrow.out.stays hS9)
    go_upto_if 31 with (fail)
    go_cut [] (fun wx => ∃ l s2 a cap, R = ((Px.expect E [59] s2).bind fun _ s6 => .ok (T.of 22 (Px.offOf E s) l) s6) ∧ Under B E g w w.heap.size w1.heap.size zero9 (cells9 (T.of 22 (Px.offOf E s) [])) l l.length s2 a cap wx)
    case first =>
      have hacs : Px.accepts E [119, 104, 101, 110] s8 = Px.accepts E [119, 104, 101, 110] s7 := by rw [← e8]; rfl
      cases hac : Px.accepts E [119, 104, 101, 110] s7
      · have HX := Lib.hid (HX.out.trans (congrArg (fun r => Px.Res.bind r _) (if_neg (by rw [hac]; decide))))
        rw [hac] at hacs
        have HR := Lib.hid (show RdAt B E g w9 s8 by have := HR.out; unfold Px.accepted at this; rw [if_neg (by rw [hacs]; decide)] at this; exact this)
        have HX := Lib.hid ((show R = (Px.Res.ok _ _).bind _ from HX.out).trans (Res.ok_bind _ _ _))
        rw [hacs]
        go_wp2_with fail
        go_meet
        exact ⟨a6, _, _, _, HX.out, ⟨HR.out, HS.out, z0, z1, Hrow.out⟩⟩
      · have HX := Lib.hid (HX.out.trans (congrArg (fun r => Px.Res.bind r _) (if_pos hac)))
        rw [hac] at hacs
        have HR := Lib.hid (show RdAt B E g w9 (Px.rest s8) by have := HR.out; unfold Px.accepted at this; rw [if_pos hacs] at this; exact this)
        have HX := Lib.hid (show R = ((Px.expr E (Px.rest s8)).bind fun g s4 => .ok (g :: a6.tail) s4).bind fun l s5 => (Px.expect E [59] s5).bind fun _ s6 => .ok (T.of 22 (Px.offOf E s) l) s6 from HX.out)
        have HX := Lib.hid (HX.out.trans (Res.bind_assoc _ _ _))
        obtain ⟨t0, l6, rfl⟩ : ∃ t0 l6, a6 = t0 :: l6 := by
          cases a6 with
          | nil => exact absurd rfl hne6
          | cons t l => exact ⟨t, l, rfl⟩
        obtain ⟨gb, capb, cur0, hkv, hcur0, -, hSb, -⟩ := RowX.head Hrow.out
        injection hkv with k1 k2 k3
        subst k1
        subst k3
        have hgb := lt_heap hcur0
        have hgb1 : w1.heap.size + 1 ≤ gb := hSb
        clear hcur0 hSb k2
        rw [hacs]
        go_wp2_with fail
        go_region_law (go_simp; go_at_call 61; refine (expr_any (HR.out.locals (by (repeat (first | with_reducible exact HL.out | with_reducible refine Locals.alloc ?_ _ | with_reducible refine Locals.drew ?_ | (with_reducible refine Locals.setRowN ?_ ?_ ?_ _; rotate_left; (focus ((repeat (first | with_reducible exact HasV.new _ _ _ | with_reducible refine HasV.setRow ?_ _ _ | with_reducible refine HasV.alloc ?_ _ | with_reducible exact HasV.of (by assumption))); done)); (focus (first | with_reducible exact Nat.le_refl _ | with_reducible assumption | omega | (simp; omega)))) | with_reducible exact Locals.refl _ _))))).mono ?_; intro e10 w10 hm10; refine hm10.cases ?_ ?_; rotate_left; (focus (intro db sb hrb heb hRb hSb; subst heb; refine post_panic rfl ?_; exact Says.bad (HX.out.trans (Res.bind_of_bad hrb _)) (Stays.trans (a := w) (by (repeat (first | with_reducible exact HS.out | with_reducible refine Stays.alloc ?_ _ | with_reducible refine Stays.drew ?_ | (with_reducible refine Stays.setRow ?_ ?_ _; rotate_left; (focus (first | with_reducible exact Nat.le_refl _ | with_reducible assumption | omega | (simp; omega)))) | with_reducible exact Stays.refl _ _ _))) hSb) hRb)); intro a10 s10 v10 hr10 he10 hv10 hR10 hS10; subst he10; have HX := Lib.hid (HX.out.trans (Res.bind_of_ok hr10 _)); have HR := Lib.hid hR10; have HS := Lib.hid (Stays.trans (a := w) (by (repeat (first | with_reducible exact HS.out | with_reducible refine Stays.alloc ?_ _ | with_reducible refine Stays.drew ?_ | (with_reducible refine Stays.setRow ?_ ?_ _; rotate_left; (focus (first | with_reducible exact Nat.le_refl _ | with_reducible assumption | omega | (simp; omega)))) | with_reducible exact Stays.refl _ _ _))) hS10); have Hr10 := Lib.hid hr10; have hs10 := hS10.size; (try simp at hs10); clear hm10 hr10 hR10; obtain ⟨p10, c10, rfl, hw10⟩ := hv10; have Hw10 := Lib.hid hw10.lt; clear hw10; unfold nodeVal; have z0' : Var 25 w10 w.heap.size _ := Var.stays (by (focus ((repeat (first | with_reducible assumption | with_reducible exact Var.new _ _ _ | (with_reducible refine Var.row_new ?_ _; (focus ((repeat (first | with_reducible exact HasV.new _ _ _ | with_reducible refine HasV.setRow ?_ _ _ | with_reducible refine HasV.alloc ?_ _ | with_reducible exact HasV.of (by assumption))); done))) | with_reducible apply Var.drew | with_reducible apply Var.row_other | with_reducible apply Var.alloc | omega | (simp; omega))); done))) hS10; clear z0 z0c z0f; have z0 := z0'; clear z0'; have z0l := z0.lt; obtain ⟨z0c, z0f⟩ := obj_facts z0; have z1' : Var 25 w10 w1.heap.size _ := Var.stays (by (focus ((repeat (first | with_reducible assumption | with_reducible exact Var.new _ _ _ | (with_reducible refine Var.row_new ?_ _; (focus ((repeat (first | with_reducible exact HasV.new _ _ _ | with_reducible refine HasV.setRow ?_ _ _ | with_reducible refine HasV.alloc ?_ _ | with_reducible exact HasV.of (by assumption))); done))) | with_reducible apply Var.drew | with_reducible apply Var.row_other | with_reducible apply Var.alloc | omega | (simp; omega))); done))) hS10; clear z1 z1c z1f; have z1 := z1'; clear z1'; have z1l := z1.lt; obtain ⟨z1c, z1f⟩ := obj_facts z1; obtain ⟨gb2, cap2, cur, hkv2, hcur, hsz, hSg, hhead⟩ := RowX.head (RowX.stays (RowX.drew Hrow.out) hS10); injection hkv2 with k1 k2 k3; injection k1 with k1; injection k1 with k1; subst k1; have qf := frozen_of_obj hcur; have q00 := cell_head hcur 0 (by omega); have q10 := cell_head hcur 1 (by omega); have q20 := cell_head hcur 2 (by omega); have q30 := cell_head hcur 3 (by omega); have q40 := cell_head hcur 4 (by omega); have q50 := cell_head hcur 5 (by omega); have q60 := cell_head hcur 6 (by omega); have q70 := cell_head hcur 7 (by omega); have q80 := cell_head hcur 8 (by omega))
        all_goals
          go_wp2_with fail
          rw [store_head hcur]
          go_meet
          refine ⟨a10 :: l6, s10, _, _, HX.out, ⟨HR.out.locals ((Locals.refl _ _).setRowN (HasV.of hcur) (by omega) _), HS.out.setRow (by omega) _, z0.row_other (by omega) _, z1.row_other (by omega) _, hhead a10 _ (Row.mono Hw10.out (fun b hb => ?_))⟩⟩
          have hb1 := hb.1
          simp at hb1
          show w1.heap.size + 1 ≤ b ∧ b ≠ gb
          omega
    case rest =>
      obtain ⟨a13, s13, p13, c13, hX13, hu13⟩ := hcut
      obtain ⟨w13, hw13⟩ : ∃ w13, w13 = wc := ⟨_, rfl⟩
      subst hw13
      have HX := Lib.hid hX13
      have HR := Lib.hid hu13.rd
      have HS := Lib.hid hu13.stays
      have Hw13 := Lib.hid hu13.row.row.lt
      have z0 := hu13.v0
      have z1 := hu13.v1
      unfold zero9 at z0
      unfold cells9 at z1
      clear hu13 hX13
      obtain ⟨z0c, z0f⟩ := obj_facts z0
      have z0l := z0.lt
      obtain ⟨z1c, z1f⟩ := obj_facts z1
      have z1l := z1.lt
      go_wp2_with fail
      refine (expect_any (HR.out.locals (by (exact Locals.au))) [59] (by decide)).mono ?_
      intro e14 w14 hm14
      refine hm14.cases ?_ ?_
      rotate_left
      focus (intro db sb hrb heb hRb hSb; subst heb; go_wp2_with fail; ((try simp only [Exit.inBlock, Exit.then]); refine post_panic rfl ?_); exact Says.bad (HX.out.trans (Res.bind_of_bad hrb _)) (Stays.trans (a := w) (by (exact Stays.au)) hSb) hRb)
      intro a14 s14 v14 hr14 he14 hv14 hR14 hS14
      subst he14
      have HX := Lib.hid (HX.out.trans (Res.bind_of_ok hr14 _))
      have HR := Lib.hid hR14
      have HS := Lib.hid (Stays.trans (a := w) (by (exact Stays.au)) hS14)
      have Hr14 := Lib.hid hr14
      have hs14 := hS14.size
      (try simp at hs14)
      clear hm14 hr14 hR14
      obtain rfl := hv14
      have z0' : Var 25 w14 w.heap.size _ := Var.stays (by (exact Var.au)) hS14
      clear z0 z0c z0f
      have z0 := z0'
      clear z0'
      have z0l := z0.lt
      obtain ⟨z0c, z0f⟩ := obj_facts z0
      have z1' : Var 25 w14 w1.heap.size _ := Var.stays (by (exact Var.au)) hS14
      clear z1 z1c z1f
      have z1 := z1'
      clear z1'
      have z1l := z1.lt
      obtain ⟨z1c, z1f⟩ := obj_facts z1
      have Hw13 := Lib.hid (Row.stays (by (have QQ := Hw13; exact Row.au)) hS14)
      go_wp2_with fail
      (rw [storeN]; rotate_left; (exact HasN.au))
      ((try simp only [Exit.inBlock, Exit.then]); refine ret_node (by rfl) (by rfl) (by (exact Var.au)) (by first | rfl | simp) (by rfl) ?_)
      refine Says.ok HX.out (by (exact Stays.au)) ⟨_, _, rfl, (show Row _ _ a13 (.slice p13 a13.length c13) from Row.mono (by (have QQ := Hw13; exact Row.au)) ?_)⟩ (HR.out.locals ?_)
      · intro b hb; (try simp at hb); omega
      · (exact Locals.au)
end Go.Proofs.YtbgpboiblggmiaaGreatDoor

/-
  Statement, declaration and unit, for good.
-/
namespace Go.Proofs.YtbgpboiblggmiaaGreatDoor
open Go.RowKit
open Px (St T D Res left Takes)

theorem stmt_any {B E g : Nat} {w : World} {s : St} (h : RdAt B E g w s) : Calls Tryz.prog 167 #[.pointer (some ⟨g, 0, none⟩)] w (Says B E g w (encT w.heap.size) (Px.stmt E s)) :=
  stmt_rd (fun _ _ h _ _ ht => atomic_rd h ht) h
theorem declaration_any {B E g : Nat} {w : World} {s : St} (h : RdAt B E g w s) : Calls Tryz.prog 113 #[.pointer (some ⟨g, 0, none⟩)] w (Says B E g w (encT w.heap.size) (Px.declaration E s)) :=
  declaration_rd h (fun _ _ h => stmt_any h)
theorem unit_any {B E g : Nat} {w : World} {s : St} (h : RdAt B E g w s) : Calls Tryz.prog 53 #[.pointer (some ⟨g, 0, none⟩)] w (Says B E g w (encT w.heap.size) (Px.unit E s)) :=
  unit_rd h (fun _ _ h => declaration_any h)
end Go.Proofs.YtbgpboiblggmiaaGreatDoor

