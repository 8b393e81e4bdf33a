/-
  What the walks of the levels have in common.
-/
import Derived.Test.YtblonfjlcfjodaaGreatDoorPApp
namespace Go.Proofs.YtblonfjlcfjodaaGreatDoor
set_option linter.unusedSimpArgs false
set_option linter.unusedVariables false
open Go.RowKit
theorem vN (w:World) (v0 v1 v2 v3 v4:Value) (ty:TypeId) (b:Nat) (hb:b=w.heap.size):Box5 (w.alloc (.cells #[v0,v1,v2,v3,v4] ty (0,0))) b ty v0 v1 v2 v3 v4:=zA w _ _ hb
theorem wK (p:Nat) (t:Tok) (R:List Tok) (L:List (List UInt8)) (k:Nat) (l1 l2 l3:List UInt8) (hL:L++List.replicate k []=[l1,l2,l3]) (W:World) (bl:Nat) (ty:TypeId) (v0 v1:Value) (h:PAt W p (t::R)) (hl:Box5 W bl ty v0 v1 (.string ⟨l1.toArray⟩) (.string ⟨l2.toArray⟩) (.string ⟨l3.toArray⟩)) :
 Calls Tryz.prog 122 #[.pointer (some ⟨p,0,none⟩),.slice (some ⟨bl,2,none⟩) 3 3] W (Accepted L p t R W):=by
 have hs:StrAt W (.slice (some ⟨bl,2,none⟩) 3 3) (L++List.replicate k []):=by
  rw[hL];obtain⟨_,_,c2,c3,c4,_⟩:=Box5.cells hl;refine⟨bl,2,3,rfl,Box5.lt hl,fun i l hi=>?_⟩
  match i with
  | 0=>obtain rfl:=zc hi;exact c2
  | 1=>obtain rfl:=zc hi;exact c3
  | 2=>obtain rfl:=zc hi;exact c4
  | i+3=>cases hi
 refine(qk p t R _ _ _ h hs (by rw[hL];show 3<=1000;decide)).mono fun e w' h9=>?_;unfold Accepted at h9
 rwa [q7 (h.ok t (by simp)) L k] at h9
theorem rZ {rec:Md->List Tok->PR} {n:Nat} {x:Nd} {t:Tok} {S:List Tok} (h:isOne (signsOf n) t=false):exec rec (step (.lvl n x)) (t::S)=.ok x (t::S):=by
 show(if isOne (signsOf n) t=true then _ else _)=_
 rw[h];rfl
theorem lvl_once {rec:Md->List Tok->PR} {x:Nd} {t:Tok} {S:List Tok} (h:isOne (signsOf 2) t=true):exec rec (step (.lvl 2 x)) (t::S)=match rec (.level 3) S with
 | .ok y R=>.ok (node 19 t [x,y]) R
 | .bad R=>.bad R
 | .out=>.out:=by
 show(if isOne (signsOf 2) t=true then exec rec (.call (.level 3) fun r=>.ret (node 19 t [x,r])) S else _)=_
 rw[h,if_pos rfl];cases hq:rec (.level 3) S <;> simp only[exec,hq]
theorem zeo {rec:Md->List Tok->PR} {x:Nd} {t:Tok} {S:List Tok} (h:isOne (signsOf 0) t=true):exec rec (step (.lvl 0 x)) (t::S)=match rec (.level 0) S with
 | .ok y R=>.ok (node 22 t [x,y]) R
 | .bad R=>.bad R
 | .out=>.out:=by
 show(if isOne (signsOf 0) t=true then exec rec (.call (.level 0) fun r=>.ret (node 22 t [x,r])) S else _)=_
 rw[h,if_pos rfl];cases hq:rec (.level 0) S <;> simp only[exec,hq]
theorem zdz {rec:Md->List Tok->PR} {x:Nd} {t:Tok} {S:List Tok} (h:isOne (signsOf 1) t=true):exec rec (step (.lvl 1 x)) (t::S)=match rec (.level 1) S with
 | .ok y R=>.ok (node 21 t [x,y]) R
 | .bad R=>.bad R
 | .out=>.out:=by
 show(if isOne (signsOf 1) t=true then exec rec (.call (.level 1) fun r=>.ret (node 21 t [x,r])) S else _)=_
 rw[h,if_pos rfl];cases hq:rec (.level 1) S <;> simp only[exec,hq]
theorem lvl_left3 {rec:Md->List Tok->PR} {x:Nd} {t:Tok} {S:List Tok} (h:isOne (signsOf 3) t=true):exec rec (step (.lvl 3 x)) (t::S)=match rec (.level 4) S with
 | .ok y R=>rec (.lvl 3 (node 19 t [x,y])) R
 | .bad R=>.bad R
 | .out=>.out:=by
 show(if isOne (signsOf 3) t=true then exec rec (.call (.level 4) fun r=>.call (.lvl 3 (node 19 t [x,r])) .ret) S else _)=_
 rw[h,if_pos rfl];cases hq:rec (.level 4) S with
 | ok y R =>
  simp only[exec,hq];cases rec (.lvl 3 (node 19 t [x,y])) R <;> rfl
 | bad R=>simp only[exec,hq]
 | out=>simp only[exec,hq]
theorem lvl_left4 {rec:Md->List Tok->PR} {x:Nd} {t:Tok} {S:List Tok} (h:isOne (signsOf 4) t=true):exec rec (step (.lvl 4 x)) (t::S)=match rec (.level 5) S with
 | .ok y R=>rec (.lvl 4 (node 19 t [x,y])) R
 | .bad R=>.bad R
 | .out=>.out:=by
 show(if isOne (signsOf 4) t=true then exec rec (.call (.level 5) fun r=>.call (.lvl 4 (node 19 t [x,r])) .ret) S else _)=_
 rw[h,if_pos rfl];cases hq:rec (.level 5) S with
 | ok y R =>
  simp only[exec,hq];cases rec (.lvl 4 (node 19 t [x,y])) R <;> rfl
 | bad R=>simp only[exec,hq]
 | out=>simp only[exec,hq]
theorem wc {rec:Md->List Tok->PR} {n:Nat} {T:List Tok} (h:n<5):exec rec (step (.level n)) T=match rec (.level (n+1)) T with
 | .ok x R=>rec (.lvl n x) R
 | .bad R=>.bad R
 | .out=>.out:=by
 simp only[step,if_neg (show ¬5<=n by omega),exec];cases rec (.level (n+1)) T with
 | ok x R =>
  show(match rec (.lvl n x) R with | .ok x R=>_ | .bad R=>_ | .out=>_)=_
  cases hq:rec (.lvl n x) R <;> simp only[hq]
 | bad R=>rfl
 | out=>rfl
