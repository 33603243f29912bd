/-
  A source without diagnostics, a line feed and another source read as the items of both, with the diagnostics of the second one: the law ParserConcat returns true for every input. Condition: the listed package-level variables begin as the program's text lays them (the card ties them).
-/
import Derived.Test.YtbgpboiblggmiaaGreatDoorLwv
import Derived.Test.YtbgpboiblggmiaaGreatDoorRwb
set_option linter.unusedVariables false
set_option linter.unusedSimpArgs false
namespace Go.Proofs.YtbgpboiblggmiaaGreatDoor.LawConcatP
open Go.ChangeShapes Go.WideShapes Go.ChangeAt Go.RowKit Go.ChangeMaps

set_option maxRecDepth 100000 in
theorem ct (H : Type) (enc : TypeId × Value → H) (W : World) (base : Nat) (av : Array Value) (ds gs : List (DataW H)) (bf : List MemPlace)
    (h9 : ∀ (j : Nat) t v, Tryz.f7.params[j]? = some t → av[j]? = some v → Value.okWide Tryz.prog W .any base t v)
    (hW : DataW.Whole enc Tryz.prog Tryz.f7.params.toList Rows.parserConcatSpec.vars false W av.toList ds gs bf) (hL : laidMetH Tryz.prog Rows.parserConcatRow.laid W) (hsh : W.ShapedOpen Tryz.prog) :
    Calls Tryz.prog 7 av W fun e W' => ∃ v, e = .returned v ∧ Rows.parserConcatSpec.post enc Tryz.prog Tryz.f7 false true false false W av v W' := by
  have hW' := hW
  obtain ⟨p, q, hA0, hV, rfl, hfz, hnd⟩ := hW
  have hA : DataW.TrodAll enc Tryz.prog W 0 (fun _ => true) true Tryz.f7.params.toList av.toList ds p := hA0
  rw [Tryz.params7] at hA h9
  obtain ⟨v0, vs0, d0, ds0, p0, q0, hargs, rfl, rfl, h0, r0⟩ := trodAll_cons hA
  obtain ⟨v1, vs1, d1, ds1, p1, q1, rfl, rfl, rfl, h1, r1⟩ := trodAll_cons r0
  obtain ⟨rfl, rfl, rfl⟩ := trodAll_nil r1
  obtain rfl : av = #[v0, v1] := by cases av; simp_all
  obtain ⟨rfl, rfl⟩ := trodVars_none hV
  obtain ⟨s0, rfl, rfl, rfl, hz0⟩ := open_string Tryz.underlying9 (h9 0 9 v0 rfl rfl) h0
  obtain ⟨s1, rfl, rfl, rfl, hz1⟩ := open_string Tryz.underlying9 (h9 1 9 v1 rfl rfl) h1
  clear hA0
  simp only [List.append_nil] at hW'
  refine (concatp_walk s0 s1 W (symsAt_of_laid hL) (maxAt_of_shaped hsh) hz0 hz1).mono fun e W' ⟨he, hg⟩ => ?_
  subst he
  exact ⟨_, rfl, post_below (pa := []) (pv := []) hW' (fun _ _ _ => trodAll_cons_mk (shut_bool Tryz.underlying4 _) trodAll_mk0) (fun _ _ => (trodAll_cons_mk (shut_string Tryz.underlying9 hz0) (trodAll_cons_mk (shut_string Tryz.underlying9 hz1) trodAll_mk0))) (fun _ _ => rfl) rfl hg⟩

set_option maxRecDepth 100000 in
theorem rd (os : Os) {H : Type} (enc : TypeId × Value → H) : ∃ pl, DataW.whole enc Tryz.prog ((laidWorld os).forCall (fun _ _ => 0) ⟨#[], #[.string ⟨#[]⟩, .string ⟨#[]⟩], []⟩).memory Tryz.f7.params.toList Rows.parserConcatSpec.vars false #[Value.string ⟨#[]⟩, Value.string ⟨#[]⟩].toList 8 = some ([.lit (.string []), .lit (.string [])], [], pl) :=
  ⟨[], by kernel_rfl⟩

set_option maxRecDepth 100000 in
theorem lf (os : Os) (st : os.Started) (H : Type) (enc : TypeId × Value → H) (F : Stop.Interp) :
    ReturnsInHanded {} Tryz.checked os 7 .any ((OpenSpec.ofChange Rows.parserConcatSpec).preRow enc Tryz.prog Tryz.f7 Rows.parserConcatRow.domain false Rows.parserConcatRow.laid) (((OpenSpec.ofChange Rows.parserConcatSpec).at F).post enc Tryz.prog Tryz.f7 false true false false) := by
  obtain ⟨pl, hx⟩ := rd os enc
  refine returnsInHanded_of_row (C := Tryz.checked) (s := OpenSpec.ofChange Rows.parserConcatSpec) own st (by kernel_rfl) Tryz.func7
    (witness_row_at (enc := enc) (C := Tryz.checked) false (laidWorld os) #[.string ⟨#[]⟩, .string ⟨#[]⟩] rfl (laid_vars os _) (laid_rest os _) (by kernel_rfl)
      (OpenSpec.preRow_of_cond 8 hx (by kernel_rfl) (fun k hk => by cases hk) (by kernel_rfl) (laid_met os _))) ?_
  intro W base av ds gs bf h9 hW _ _ _ hL hsh _
  exact ct H enc W base av ds gs bf h9 hW hL hsh

theorem said : Rows.ParserConcatSaid :=
  OpenClaim.holds_of_cond 7 Tryz.f7 rfl rfl rfl rfl rfl rfl rfl ⟨rfl, rfl, rfl, rfl, rfl⟩ rfl rfl rfl rfl rfl (by kernel_rfl) Tryz.func7 (by kernel_rfl)
    (of_decide_eq_true (by kernel_rfl)) (by unfold Func.isWrapper; rw [if_neg (of_decide_eq_false (by kernel_rfl))]; exact ⟨rfl, rfl⟩)
    (fun os st H enc _ F => by rw [OpenClaim.pre_eq_preRow]; exact lf os st H enc F)

theorem plain (f : FuncId) (fn : Func) (hf : Tryz.pinned.checked.prog.funcNamed "relyguard/relyguardlaw02.ParserConcat" = some f) (hfn : Tryz.pinned.checked.prog.funcs[f]? = some fn) :
    true = Tryz.pinned.checked.prog.looks [] ∧ ∀ (j : Nat) t, fn.params[j]? = some t → Tryz.pinned.checked.prog.wantsStandIn t = false := by
  obtain rfl : f = 7 := Option.some.inj ((show Tryz.prog.funcNamed "relyguard/relyguardlaw02.ParserConcat" = some 7 by kernel_rfl).symm.trans hf) |>.symm
  obtain rfl : fn = Tryz.f7 := (Option.some.inj (Tryz.func7.symm.trans hfn)).symm
  refine ⟨by kernel_rfl, fun j t ht => ?_⟩
  rw [Tryz.params7] at ht
  have hm := Array.mem_of_getElem? ht
  simp only [List.mem_toArray, List.mem_cons, List.not_mem_nil, or_false] at hm
  rcases hm with rfl | rfl
  · exact (show Tryz.prog.wantsStandIn 9 = false by kernel_rfl)
  · exact (show Tryz.prog.wantsStandIn 9 = false by kernel_rfl)

theorem card : Rows.ParserConcatCardSaid :=
  Claim7.holds_tied_plain_at .later [] _ _ _ _ said (fun _ h => by cases h) (by kernel_rfl) (fun _ h => by cases h) parserConcat_row_tie rfl ⟨rfl, rfl⟩ (by kernel_rfl) rfl plain (by kernel_rfl)
end Go.Proofs.YtbgpboiblggmiaaGreatDoor.LawConcatP
