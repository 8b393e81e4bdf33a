/-
  What the laws of stage 6 share: what Parse gives, whichever it is, and the box that it is stored into; the com.
-/
import Derived.Test.YtigbapkdpaahjaaGreatDoorGEnd
import Derived.Test.YtigbapkdpaahjaaGreatDoorGSame
namespace Go.Proofs.YtigbapkdpaahjaaGreatDoor
set_option linter.unusedSimpArgs false
set_option linter.unusedVariables false
open Go.RowKit
theorem isE_zero (w:World):IsE w (fun _=>True) (exL z0 ⟨none,0,none,0,none,0⟩) z0:=⟨_,_,_,rfl,zx _ _ _ _,⟨[],zx _ _ _ _,trivial⟩,[],zx _ _ _ _,trivial⟩
structure InBox (w:World) (b:Nat) (x:Nd) (s:Sl):Prop where
 box:ExBox w b x s
 tree:IsE w (fun _=>True) (exL x s) x
theorem InBox.below {w w':World} {b:Nat} {x:Nd} {s:Sl} (h:InBox w b x s) (hb:Below w.heap.size w w'):InBox w' b x s:=⟨h.box.below hb,h.tree.below hb⟩
theorem InBox.new {w:World} {x:Nd} {s:Sl} (h:IsE w (fun _=>True) (exL x s) x):InBox (w.alloc (exObj x s)) w.heap.size x s:=⟨ExBox.new w x s,h.below (zj _)⟩
