/-
  What the laws of stage 6 share: what Parse gives, whichever it is, and the box that it is stored into; the comparison of two such trees.
-/
import Derived.Test.YtecpldnjpapalaaDoorGEnd
import Derived.Test.YtecpldnjpapalaaDoorGPure
import Derived.Test.YtecpldnjpapalaaDoorPSmE
namespace Go.Proofs.YtecpldnjpapalaaDoor
open Go.RowKit
def ParsedT (r : PV) (w : World) (e : Ending) (w' : World) : Prop := Below w.heap.size w w' ∧ ∃ s, e = .returned (.tuple #[exOf r.tree s, .int .i64 r.err, .int .i64 (r.at_ : Nat)]) ∧ IsE w' (fun _ => True) (exL r.tree s) r.tree
theorem isE_zero (w : World) : IsE w (fun _ => True) (exL z0 ⟨none, 0, none, 0, none, 0⟩) z0 := ⟨_, _, _, rfl, rowIn_nil _ _ _ _, ⟨[], rowIn_nil _ _ _ _, trivial⟩, [], rowIn_nil _ _ _ _, trivial⟩
theorem parsed_t {r : PV} {w w' : World} {e : Ending} (h : Parsed r w e w') : ParsedT r w e w' := by
  obtain ⟨hb, h⟩ := h
  cases r with
  | ok x =>
    obtain ⟨s, rfl, hi⟩ := h
    exact ⟨hb, s, rfl, hi.wide fun _ _ => trivial⟩
  | bad er q =>
    obtain rfl := h
    exact ⟨hb, _, rfl, isE_zero w'⟩
theorem p_parse_t (s : ByteArray) (w : World) (hy : Ready w) : Calls Tryd.prog 20 #[.string s] w (ParsedT (ParseV s.data.toList) w) := (p_parse s w hy).mono fun _ _ h => parsed_t h
/-- A tree in a box of one's own. -/
structure InBox (w : World) (b : Nat) (x : Nd) (s : Sl) : Prop where
  box : ExBox w b x s
  tree : IsE w (fun _ => True) (exL x s) x
theorem InBox.below {w w' : World} {b : Nat} {x : Nd} {s : Sl} (h : InBox w b x s) (hb : Below w.heap.size w w') : InBox w' b x s := ⟨h.box.below hb, h.tree.below hb⟩
theorem InBox.new {w : World} {x : Nd} {s : Sl} (h : IsE w (fun _ => True) (exL x s) x) : InBox (w.alloc (exObj x s)) w.heap.size x s := ⟨ExBox.new w x s, h.below (below_one' _)⟩
/-- Two trees, compared. -/
theorem r_same_any (p : Bool) (x y : Nd) (sx sy : Sl) (w : World) (hx : IsE w (fun _ => True) (exL x sx) x) (hy : IsE w (fun _ => True) (exL y sy) y) : Calls Tryd.prog 21 #[exOf x sx, exOf y sy, .bool p] w (YesMade (x.alike p y) w) := r_same p x.size x y sx sy w (Nat.le_refl _) hx hy
end Go.Proofs.YtecpldnjpapalaaDoor
