/-
  ShowPatterns, PROVED: called with any values of its parameters' types, with the listed variables as the program's own text lays them, the law returns true, and its arguments read as they did; the card ties the variables to the program's text. No further condition.
-/
import Derived.Test.YtblonfjlcfjodaaGreatDoorGQl
import Derived.Test.YtblonfjlcfjodaaGreatDoorTie
import Derived.Test.YtblonfjlcfjodaaGreatDoorCards
import Derived.SevenTiedAt
namespace Go.Proofs.YtblonfjlcfjodaaGreatDoor
set_option linter.unusedSimpArgs false
set_option linter.unusedVariables false
set_option maxRecDepth 100000
set_option maxHeartbeats 2000000
open Go Go.ChangeShapes Go.WideShapes Go.ChangeAt Go.WideMaps Go.WideElems Go.RowKit Go.Deep
open Go.ChangeMaps (open_string shut_string)
theorem zfz (os:Os) (started:os.Started) (H:Type) (enc:TypeId×Value->H) :
 ReturnsInHanded {} Tryz.checked os 5 .any (fun w args=>(Rows.showPatternsSpec.pre enc Tryz.prog Tryz.f5 [] false w args/\laidMetH Tryz.prog laidW w)/\sizedMet enc Tryz.prog Tryz.f5 (OpenSpec.ofChange Rows.showPatternsSpec) false w args)
  (Rows.showPatternsSpec.post enc Tryz.prog Tryz.f5 false true false false):=by
 refine returnsInHanded_of_change_and (C := Tryz.checked) (X:=fun w _=>laidMetH Tryz.prog laidW w) (fun _ _ _ hh h=>h.of_heap hh) own started (by kernel_rfl) Tryz.func5
  (ChangeSpec.witness_shaped (enc:=enc) (C := Tryz.checked) (os:=os) (X:=fun w _=>laidMetH Tryz.prog laidW w) false (World.doorLaid Tryz.prog 400 os) #[.agg #[.int .i64 0,.int .i64 0,.string ByteArray.empty,.int .i64 0,.string ByteArray.empty,.slice none 0 0,.slice none 0 0]] 8 rfl (World.shaped_of_RefB (by kernel_rfl) (by kernel_rfl)) (by kernel_rfl) (by kernel_rfl) (by kernel_rfl) (ub os _)) ?_
 intro W base args ds gs before hval0 hW _ hsz0 hL _;have hval:∀(j:Nat) t v, Tryz.f5.params[j]? = some t->args[j]? = some v->Value.okWide Tryz.prog W .any base t v:=hval0;have hW':=hW;obtain⟨p,q,hA0,hV,rfl,hfz,hnd⟩:=hW;have hA:DataW.TrodAll enc Tryz.prog W 0 (fun _=>true) true Tryz.f5.params.toList args.toList ds p:=hA0;have hsz:(DataW.weightsEach Tryz.prog (Tryz.f5.params.toList++Rows.showPatternsSpec.plain.varTypes Tryz.prog) (ds++gs)).all (·<=reachBytes)=true:=hsz0;rw[Tryz.params5] at hA hval hsz;obtain⟨v0,d0,rfl,rfl,h0⟩:=trodAll_one hA;obtain⟨rfl,rfl⟩:=trodVars_none hV;obtain⟨cs0,rfl,_⟩:=okWide_struct xr (hval 0 39 v0 rfl rfl);obtain⟨fu0,hfu0⟩:=h0;obtain⟨nd0,sl0,hcs0,e0,w0⟩:=pat_of fu0 _ _ hfu0 (tw hsz (j:=0) (t := 39) rfl rfl);obtain rfl:cs0=(paL nd0 sl0).toArray:=by rw[← hcs0];rfl
 have h0:DataW.Trod enc Tryz.prog W 0 (fun _=>true) true 39 (.agg (paL nd0 sl0).toArray) d0 p:=⟨fu0,hfu0⟩;clear hA0 hval0
 set_option linter.unusedSimpArgs false in
 try simp only[List.append_nil,List.nil_append,List.append_assoc] at hW'
 have hlt0:∀ x∈p,x.block<W.heap.size:=fun x hx=>hW'.lt x (by simp [hx]);refine(zfY nd0 sl0 W (ym hL).1 (ym hL).2 e0 w0).mono fun e W' ⟨he,hb⟩=>?_;subst he;exact⟨_,rfl,_,_,_,[],_,[],hW',trodAll_mk1 (shut_bool Tryz.underlying4 _),trodAll_mk1 (Below.trod sJ (by kernel_rfl) (of_decide_eq_true (by kernel_rfl)) h0 hb hlt0),rfl,hb.frame _,fun h=>by cases h⟩
theorem zf1:Rows.ShowPatternsSaid :=
 OpenClaim.holds_of_wide 5 Tryz.f5 rfl rfl rfl rfl rfl rfl rfl ⟨rfl,rfl,rfl,rfl,rfl⟩ rfl rfl rfl rfl rfl (by kernel_rfl) Tryz.func5 (by kernel_rfl)
  (of_decide_eq_true (by kernel_rfl)) (by unfold Func.isWrapper;rw[if_neg (of_decide_eq_false (by kernel_rfl))];exact⟨rfl,rfl⟩)
  (fun os started H enc _=>zfz os started H enc)
theorem patterns7_card:Rows.ShowPatternsCardSaid :=
 Claim7.holds_tied_plain_at .later [] [.data, .data, .data, .data, .data, .data] true (true, "de054d7ea11624670023bde832e23431d33bed1f9cb009a4f20099ca8b1a0d14") true
  zf1 (fun _ h=>by cases h) (by kernel_rfl) (fun _ h=>by cases h) showPatterns_row_tie rfl ⟨rfl,rfl⟩ (by kernel_rfl) rfl
  (fun f fn hf hfn=>by
   obtain rfl : f = 5 := zc ((show Tryz.prog.funcNamed "marquetry/marquetrylaw07.ShowPatterns" = some 5 by kernel_rfl).symm.trans hf) |>.symm
   obtain rfl:fn = Tryz.f5 := (zc (Tryz.func5.symm.trans hfn)).symm;exact⟨by kernel_rfl,fun j t ht=>by
    rw[Tryz.params5] at ht;have hm:t∈[39]:=by simpa using Array.mem_of_getElem? ht
    have hall:([39].all fun u => !Tryz.prog.wantsStandIn u)=true:=by kernel_rfl
    exact(show Tryz.prog.wantsStandIn t=false by simpa using List.all_eq_true.1 hall t hm)⟩)
  (by kernel_rfl)
#print axioms patterns7_card
end Go.Proofs.YtblonfjlcfjodaaGreatDoor
