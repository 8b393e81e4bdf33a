/-
  StoreSame, PROVED: called with any values of its parameters' types, with math/bits' listed table as the program's own text lays it, the law returns true, and its arguments read as they did; the card ties the table to the program's text. No further condition.
-/
import Derived.Test.YtbmkjlpjgkfjcaaDoorSRowS
import Derived.Test.YtbmkjlpjgkfjcaaDoorSLawHm
import Derived.Test.YtbmkjlpjgkfjcaaDoorTie
import Derived.Test.YtbmkjlpjgkfjcaaDoorCards
import Derived.SevenTiedAt
namespace Go.Proofs.YtbmkjlpjgkfjcaaDoor
open Go Go.ChangeShapes Go.WideShapes Go.ChangeAt Go.WideMaps Go.WideElems Go.RowKit
set_option maxRecDepth 100000 in
theorem ssame_lifted (os : Os) (started : os.Started) (H : Type) (enc : TypeId × Value → H) :
    ReturnsInHanded {} Tryd.checked os 10 .any (fun w args => (Rows.storeSameSpec.pre enc Tryd.prog Tryd.f10 [] false w args ∧ laidMetH Tryd.prog laid1 w) ∧ sizedMet enc Tryd.prog Tryd.f10 (OpenSpec.ofChange Rows.storeSameSpec) false w args)
      (Rows.storeSameSpec.post enc Tryd.prog Tryd.f10 false true false false) := by
  refine returnsInHanded_of_change_and (C := Tryd.checked) (X := fun w _ => laidMetH Tryd.prog laid1 w) (fun _ _ _ hh h => h.of_heap hh) own started (by kernel_rfl) Tryd.func10
    (ChangeSpec.witness_shaped (enc := enc) (C := Tryd.checked) (os := os) (X := fun w _ => laidMetH Tryd.prog laid1 w) false (World.doorLaid Tryd.prog 400 os) #[.int .i64 0, .slice none 0 0] 8 rfl (World.shaped_of_RefB (by kernel_rfl) (by kernel_rfl)) (by kernel_rfl) (by kernel_rfl) (by kernel_rfl) (door_met os _)) ?_
  intro W base args ds gs before hval0 hW _ _ hL _
  have hval : ∀ (j : Nat) t v, Tryd.f10.params[j]? = some t → args[j]? = some v → Value.okWide Tryd.prog W .any base t v := hval0
  have hW' := hW
  obtain ⟨p, q, hA0, hV, rfl, hfz, hnd⟩ := hW
  have hA : DataW.TrodAll enc Tryd.prog W 0 (fun _ => true) true Tryd.f10.params.toList args.toList ds p := hA0
  rw [Tryd.params10] at hA hval
  obtain ⟨v0, v1, d0, d1, p0, p1, rfl, rfl, rfl, h0, h1⟩ := trodAll_two hA
  obtain ⟨rfl, rfl⟩ := trodVars_none hV
  obtain ⟨x0, rfl, rfl, rfl, w0⟩ := open_int Tryd.underlying3 (hval 0 3 v0 rfl rfl) h0
  obtain ⟨sa1, sl1, sc1, rfl⟩ := okWide_slice Tryd.underlying74 (hval 1 74 v1 rfl rfl)
  obtain ⟨fu1, hfu1⟩ := h1
  obtain ⟨A, n, c, hcs1, hS1, hn1⟩ := script4_of hfu1
  have heq : [Value.slice sa1 sl1 sc1] = [Value.slice A n c] := hcs1
  simp only [List.cons.injEq, and_true, Value.slice.injEq] at heq
  obtain ⟨rfl, rfl, rfl⟩ := heq
  have h1 : DataW.Trod enc Tryd.prog W 0 (fun _ => true) true 74 (.slice sa1 sl1 sc1) d1 p1 := ⟨fu1, hfu1⟩
  clear hA0 hval0
  simp only [List.append_nil, List.nil_append] at hW'
  have hlt1 : ∀ x ∈ p1, x.block < W.heap.size := fun x hx => hW'.lt x (by simp [hx])
  refine (law_Same x0 sa1 sl1 sc1  W (tab_of_laid hL) (bounds_i64 w0) hS1 hn1).mono fun e W' ⟨he, hb⟩ => ?_
  subst he
  exact ⟨_, rfl, _, _, _, [], _, [], hW', trodAll_mk1 (shut_bool Tryd.underlying4 _), trodAll_mk2 (shut_int Tryd.underlying3 w0) (Below.trod laidOut (by kernel_rfl) (of_decide_eq_true (by kernel_rfl)) h1 hb hlt1), rfl, hb.frame _, fun h => by cases h⟩
theorem ssame_row : Rows.StoreSameSaid :=
  OpenClaim.holds_of_wide 10 Tryd.f10 rfl rfl rfl rfl rfl rfl rfl ⟨rfl, rfl, rfl, rfl, rfl⟩ rfl rfl rfl rfl rfl (by kernel_rfl) Tryd.func10 (by kernel_rfl)
    (of_decide_eq_true (by kernel_rfl)) (by unfold Func.isWrapper; rw [if_neg (of_decide_eq_false (by kernel_rfl))]; exact ⟨rfl, rfl⟩)
    (fun os started H enc _ => ssame_lifted os started H enc)
theorem ssame_card : Rows.StoreSameCardSaid :=
  Claim7.holds_tied_plain_at .later [] [.data] true (true, "f7043bf09b7f2954fc3bc6c3457009cb3c6f63a408732a35506ba5eab77c071c") false
    ssame_row (fun _ h => by cases h) (by kernel_rfl) (fun _ h => by cases h) storeSame_row_tie rfl ⟨rfl, rfl⟩ (by kernel_rfl) rfl
    (fun f fn hf hfn => by
      obtain rfl : f = 10 := Option.some.inj ((show Tryd.prog.funcNamed "marquetry/marquetrylaw04.StoreSame" = some 10 by kernel_rfl).symm.trans hf) |>.symm
      obtain rfl : fn = Tryd.f10 := (Option.some.inj (Tryd.func10.symm.trans hfn)).symm
      exact ⟨by kernel_rfl, fun j t ht => by
        rw [Tryd.params10] at ht
        have hm : t ∈ [3, 74] := by simpa using Array.mem_of_getElem? ht
        have hall : ([3, 74].all fun u => !Tryd.prog.wantsStandIn u) = true := by kernel_rfl
        exact (show Tryd.prog.wantsStandIn t = false by simpa using List.all_eq_true.1 hall t hm)⟩)
    (by kernel_rfl)
#print axioms ssame_card
end Go.Proofs.YtbmkjlpjgkfjcaaDoor
