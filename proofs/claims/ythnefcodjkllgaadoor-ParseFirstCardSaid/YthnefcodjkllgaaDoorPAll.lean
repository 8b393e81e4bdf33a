/-
  The parser's functions tell what the grammar says: all of them, by the depth of the reading.
-/
import Derived.Test.YthnefcodjkllgaaDoorPSeq
import Derived.Test.YthnefcodjkllgaaDoorPItem
import Derived.Test.YthnefcodjkllgaaDoorPFun
import Derived.Test.YthnefcodjkllgaaDoorPCho
import Derived.Test.YthnefcodjkllgaaDoorPUna
import Derived.Test.YthnefcodjkllgaaDoorPLet
import Derived.Test.YthnefcodjkllgaaDoorPPosts
import Derived.Test.YthnefcodjkllgaaDoorPPost
import Derived.Test.YthnefcodjkllgaaDoorPApp
import Derived.Test.YthnefcodjkllgaaDoorPLv0
import Derived.Test.YthnefcodjkllgaaDoorPLv1
import Derived.Test.YthnefcodjkllgaaDoorPLv2
import Derived.Test.YthnefcodjkllgaaDoorPLv3
import Derived.Test.YthnefcodjkllgaaDoorPLv4
import Derived.Test.YthnefcodjkllgaaDoorPLv5
import Derived.Test.YthnefcodjkllgaaDoorPPat
import Derived.Test.YthnefcodjkllgaaDoorPCas
import Derived.Test.YthnefcodjkllgaaDoorPArm
import Derived.Test.YthnefcodjkllgaaDoorPFld
import Derived.Test.YthnefcodjkllgaaDoorPBrc
import Derived.Test.YthnefcodjkllgaaDoorPTxt
namespace Go.Proofs.YthnefcodjkllgaaDoor
open Go.RowKit
/-- All that the parser's functions tell, at one depth. -/
structure AllSay (f p : Nat) : Prop where
  seq : Says f .seq 83 #[ptrV p] p
  item : Says f .item 108 #[ptrV p] p
  fn : Says f .fn 122 #[ptrV p] p
  asg : Says f .asg 123 #[ptrV p] p
  letb : ∀ t, Says f (.letb t) 124 #[ptrV p, tokVal t] p
  cases : ∀ k t, k ≠ 19 → Says f (.cases k t) 125 #[ptrV p, .int .i64 k, tokVal t] p
  choice : ∀ t, Says f (.choice t) 126 #[ptrV p, tokVal t] p
  lv0 : Says f (.level 0) 137 #[ptrV p, .int .i64 0] p
  lv1 : Says f (.level 1) 137 #[ptrV p, .int .i64 1] p
  lv2 : Says f (.level 2) 137 #[ptrV p, .int .i64 2] p
  lv3 : Says f (.level 3) 137 #[ptrV p, .int .i64 3] p
  lv4 : Says f (.level 4) 137 #[ptrV p, .int .i64 4] p
  lv5 : Says f (.level 5) 137 #[ptrV p, .int .i64 5] p
  unary : Says f .unary 141 #[ptrV p] p
  app : Says f .app 146 #[ptrV p] p
  post : Says f .post 127 #[ptrV p] p
  posts : ∀ n, n ≤ 3 → SaysR f (.posts n []) 149 #[ptrV p, .int .i64 (n : Nat)] p
  atom : Says f .atom 139 #[ptrV p] p
  braces : ∀ t, Says f (.braces t) 144 #[ptrV p, tokVal t] p
  arms : SaysA f (.arms []) 138 #[ptrV p] p
  pat : SaysP f .pat 142 #[ptrV p] p
  patom : SaysP f .patom 147 #[ptrV p] p
  fldE : SaysF true f (.fields true) 148 #[ptrV p, (.func (.func 83) #[ptrV p] #[])] p
  fldP : SaysF false f (.fields false) 153 #[ptrV p, (.func (.func 142) #[ptrV p] #[])] p
theorem says_none {m : Md} {g : FuncId} {args : Array Value} {p : Nat} : Says 0 m g args p := fun _ _ _ h => absurd rfl h
theorem saysP_none {m : Md} {g : FuncId} {args : Array Value} {p : Nat} : SaysP 0 m g args p := fun _ _ _ h => absurd rfl h
theorem saysA_none {m : Md} {g : FuncId} {args : Array Value} {p : Nat} : SaysA 0 m g args p := fun _ _ _ h => absurd rfl h
theorem saysR_none {m : Md} {g : FuncId} {args : Array Value} {p : Nat} : SaysR 0 m g args p := fun _ _ _ h => absurd rfl h
theorem saysF_none {b : Bool} {m : Md} {g : FuncId} {args : Array Value} {p : Nat} : SaysF b 0 m g args p := fun _ _ _ h => absurd rfl h
theorem all_say (p : Nat) : ∀ f k, k ≤ f → AllSay k p
  | 0, k, h => by
    obtain rfl : k = 0 := by omega
    exact ⟨says_none, says_none, says_none, says_none, fun _ => says_none, fun _ _ _ => says_none, fun _ => says_none, says_none, says_none, says_none, says_none, says_none, says_none, says_none, says_none, says_none, fun _ _ => saysR_none, says_none, fun _ => says_none, saysA_none, saysP_none, saysP_none, saysF_none, saysF_none⟩
  | f + 1, k, h => by
    have ih := all_say p f
    by_cases hk : k ≤ f
    · exact ih k hk
    · obtain rfl : k = f + 1 := by omega
      have a := ih f (Nat.le_refl _)
      exact {
        seq := w_seq f p a.item a.seq
        item := w_item f p a.fn a.letb a.cases a.choice a.post a.asg
        fn := w_fun f p a.seq
        asg := w_assign f p a.lv0 a.item
        letb := fun t => w_let f p t a.seq a.fn
        cases := fun k t hk => w_cases f p k hk t a.seq a.arms
        choice := fun t => w_choice f p t a.seq a.item
        lv0 := w_level0 f p a.lv1 (fun j hj => (ih j hj).lv0)
        lv1 := w_level1 f p a.lv2 (fun j hj => (ih j hj).lv1)
        lv2 := w_level2 f p a.lv3 (fun j hj => (ih j hj).lv3)
        lv3 := w_level3 f p a.lv4 (fun j hj => (ih j hj).lv4)
        lv4 := w_level4 f p a.lv5 (fun j hj => (ih j hj).lv5)
        lv5 := w_level5 f p a.unary
        unary := w_unary f p a.unary a.app
        app := w_app f p (fun j hj => (ih j hj).post) a.posts
        post := w_post f p a.post a.atom
        posts := fun n hn => w_posts f p n hn (fun j hj => (ih j hj).post)
        atom := w_atom f p a.seq a.braces
        braces := fun t => w_braces f p t a.seq a.fldE
        arms := w_arms f p (fun j hj => (ih j hj).pat) (fun j hj => (ih j hj).seq)
        pat := w_pat f p a.patom
        patom := w_patom f p a.pat a.fldP
        fldE := w_fieldsE f p (fun j hj => (ih j hj).seq)
        fldP := w_fieldsP f p (fun j hj => (ih j hj).pat) }
/-- The parser of a whole text tells what the grammar says. -/
theorem p_text {T : List Tok} {g off cap : Nat} {w : World} (hg : g < w.heap.size) (hc : T.length ≤ cap) (hl : T.length ≤ 5000) (hT : TokLies w g off T) (hr : Row T) (ho : ∀ t ∈ T, TokOK t) (hv : Vars w) (hw : 6 < w.heap.size ∧ 5 < w.heap.size) : Calls Tryd.prog 57 #[.slice (some ⟨g, off, none⟩) T.length cap] w (ToldT (tokV T) w) :=
  w_text (16 * T.length + 15) (fun p => (all_say p _ _ (Nat.le_refl _)).seq) T g off cap w hg hc hl hT hr ho hv hw (tokV_runs hr)
end Go.Proofs.YthnefcodjkllgaaDoor
