/-
  The walk of text.
-/
import Derived.Test.YthnefcodjkllgaaDoorGNode
import Derived.Maps.AppendAt
import Derived.Deep.RegionHeld3
import Derived.BigQuiet
import Derived.RegionDies
namespace Go.Proofs.YthnefcodjkllgaaDoor
open Go.RowKit
/-- What is told of a whole text: the tokens lie at block g. -/
def ToldT (r : PR) (a : World) (e : Ending) (w' : World) : Prop := match r with
  | .ok x _ => ∃ s, e = .returned (exOf x s) ∧ IsE w' (fun g => a.heap.size ≤ g) (exL x s) x ∧ Below a.heap.size a w'
  | .bad R => ∃ t S, R = t :: S ∧ e = faultV t.2 ∧ Below a.heap.size a w'
  | .out => False
theorem grown_new {a w' : World} {p : Nat} {o : Obj} (hp : p = a.heap.size) (h : (a.alloc o).grownBy w' (some p)) : Below a.heap.size a w' := by
  subst hp
  refine ⟨h.os, h.tape, h.output, by have := h.size; rw [World.size_alloc] at this; omega, fun i hi => ?_⟩
  rw [h.block i (by rw [World.size_alloc]; omega) (fun e => by have := Option.some.inj e; omega)]
  exact (below_one' o).block i hi
theorem text_ret {w W1 w9 : World} {p : Nat} {R : List Tok} {x : Nd} {s : Sl} {o o' : Obj} {c0 c1 c2 c3 c4 c5 c6 c7 : Value} (hp : p = w.heap.size + 1) (hk : Keep ((w.alloc o).alloc o') p R W1) (hx : Box8 W1 w.heap.size 43 c0 c1 c2 c3 c4 c5 c6 c7) (hi : IsE W1 (fun g => w.heap.size < g) (exL x s) x)
    (he : set8 W1 w.heap.size (.int .i64 x.hd.kind) (.int .i64 (x.hd.pos : Nat)) (.string ⟨x.hd.name.toArray⟩) (.int .i64 x.hd.n) (.string ⟨x.hd.s.toArray⟩) (.slice s.la x.hd.labels.length s.lc) (.slice s.aa x.args.length s.ac) (.slice s.ra x.arms.length s.rc) = w9) :
    ∀ w10, Below w9.heap.size w9 w10 → ExBox w10 w.heap.size x s ∧ ToldT (.ok x R) w (.returned (exOf x s)) w10 := by
  have h1 : Below w.heap.size w W1 := by
    have h2 : Below (w.alloc o).heap.size (w.alloc o) W1 := grown_new (by rw [hp, World.size_alloc]) hk.grown
    exact (below_one' o).trans (h2.mono (by simp))
  obtain ⟨h3, h4, h5⟩ := hx.stored h1 (Nat.le_refl _) he
  intro w10 hb
  refine ⟨h3.below hb, s, rfl, ?_, h4.trans (hb.mono h4.size)⟩
  exact (hi.other (w' := w9) (N' := fun g => w.heap.size ≤ g) fun g hg => ⟨Nat.le_of_lt hg, h5 g (by omega)⟩).move fun g hg hl => ⟨hg, hb.block g hl⟩
theorem text_bad {w W1 : World} {p : Nat} {o o' : Obj} (hp : p = w.heap.size + 1) (hg : ((w.alloc o).alloc o').grownBy W1 (some p)) : Below w.heap.size w W1 := by
  have h2 : Below (w.alloc o).heap.size (w.alloc o) W1 := grown_new (by rw [hp, World.size_alloc]) hg
  exact (below_one' o).trans (h2.mono (by simp))
set_option maxRecDepth 100000 in
set_option maxHeartbeats 4000000 in
theorem w_text (f : Nat) (hs : ∀ p, Says f .seq 83 #[ptrV p] p) : ∀ (T : List Tok) (g off cap : Nat) (w : World), g < w.heap.size → T.length ≤ cap → T.length ≤ 5000 → TokLies w g off T → Row T → (∀ t ∈ T, TokOK t) → Vars w → (6 < w.heap.size ∧ 5 < w.heap.size) → run (f + 1) .text T ≠ .out → Calls Tryd.prog 57 #[.slice (some ⟨g, off, none⟩) T.length cap] w (ToldT (run (f + 1) .text T) w) := by
  intro T g off cap w hg hcap hlen hlies hrow hok hvars hlow hne
  have HN := Lib.hid hne
  have HR : Hid (run (f + 1) .text T = exec (run f) (step .text) T) := Lib.hid rfl
  generalize run (f + 1) .text T = res at *
  simp only [step, exec] at HR
  have HPA : Hid (PAt ((w.alloc zeroObj).alloc (.cells #[.slice (some ⟨g, off, none⟩) T.length cap] 120 (0, 0))) (w.heap.size + 1) T) := Lib.hid (by
    have hb := (below_two (w := w) zeroObj (.cells #[.slice (some ⟨g, off, none⟩) T.length cap] 120 (0, 0)))
    refine ⟨⟨g, off, cap, box_at _ _ _ (by rw [World.size_alloc]), hcap, by omega, hlen, hlies.keep (hb.block g hg)⟩, hrow, hok, hvars.keep (p := w.heap.size) hlow.1 hlow.2 fun b hx => hb.block b hx, by omega⟩)
  have HX0 : Hid (ZeroBox ((w.alloc zeroObj).alloc (.cells #[.slice (some ⟨g, off, none⟩) T.length cap] 120 (0, 0))) w.heap.size) := Lib.hid ((ZeroBox.new w).below (below_one' _))
  have HPP : Hid (w.heap.size + 1 = w.heap.size + 1) := Lib.hid rfl
  have HSQ := Lib.hid (hs (w.heap.size + 1))
  clear hs hg hcap hlen hlies hrow hok hvars hlow hne
  go_enter Tryd.func57, Tryd.ntmps57
  go_wp2_with fail
  generalize hW0 : (w.alloc zeroObj).alloc (.cells #[.slice (some ⟨g, off, none⟩) T.length cap] 120 (0, 0)) = W0 at *
  have HW0 : Hid (((w.alloc zeroObj).alloc (.cells #[.slice (some ⟨g, off, none⟩) T.length cap] 120 (0, 0))) = W0) := Lib.hid hW0
  have HSZ : Hid (W0.heap.size = w.heap.size + 2) := Lib.hid (by rw [← hW0, World.size_alloc, World.size_alloc])
  clear hW0
  generalize hp : w.heap.size + 1 = p at *
  have HP : Hid (p = w.heap.size + 1) := Lib.hid hp.symm
  clear hp
  cases hr : run f .seq T with
  | out =>
    rw [hr] at HR
    exact absurd HR.out HN.out
  | bad R9 =>
    rw [hr] at HR
    refine (HSQ.out T _ HPA.out (by rw [hr]; exact fun h => by cases h)).mono ?_
    rw [hr]
    rintro e w8 ⟨t8, S8, rfl, rfl, hg⟩
    have HB := Lib.hid (text_bad HP.out (by rw [HW0.out]; exact hg))
    clear hg hr
    unfold faultV
    go_wp2_with fail
    exact ⟨rfl, by rw [HR.out]; exact ⟨t8, S8, rfl, rfl, HB.out⟩⟩
  | ok x R =>
    rw [hr] at HR
    refine (HSQ.out T _ HPA.out (by rw [hr]; exact fun h => by cases h)).mono ?_
    rw [hr]
    rintro e W1 ⟨s, rfl, ha, hk⟩
    have HA : Hid (IsE W1 (fun g => w.heap.size < g) (exL x s) x) := Lib.hid (ha.wide fun g hg => by have := HSZ.out; omega)
    have HX : Hid (ZeroBox W1 w.heap.size) := Lib.hid ((hk.block w.heap.size (by have := HSZ.out; omega) (by have := HP.out; omega)).trans HX0.out)
    have HK := Lib.hid hk
    clear ha hk hr HX0 HPA
    have hbx := below_one' (w := W1) (exObj x s)
    have HF := Lib.hid (ExBox.new W1 x s)
    have HFZ : Hid (w.heap.size < W1.heap.size ∧ p < W1.heap.size) := Lib.hid ⟨HX.out.lt, HK.out.at_.lt⟩
    replace HX := Lib.hid (HX.out.below hbx)
    replace HA := Lib.hid (HA.out.below hbx)
    replace HK := Lib.hid (HK.out.below hbx)
    clear hbx
    obtain ⟨t, S, rfl⟩ := HK.out.at_.row.cons
    simp only at HR
    obtain ⟨g2, off2, cap2, q0, _, l1, l2, l3, j0, j1, j2, j3⟩ := HK.out.at_.view
    have jb : (0 : Int) < ((S.length : Int) + 1) := by omega
    have jg : g2 < W1.heap.size := by have := HFZ.out; omega
    have jp : p < W1.heap.size := HFZ.out.2
    by_cases hk : t.1.kind = 0
    · have B0 : (t.1.kind != 0) = false := by rw [bne_eq_false_iff_eq]; exact hk
      rw [if_pos (show isKind 0 t = true from decide_eq_true hk)] at HR
      clear hk
      unfold exOf exV
      go_upto_region 5 with fail
      clear q0 l1 l2 l3 j0 j1 j2 j3 jb jg jp B0
      generalize W1.heap.size = bf at *
      generalize W1.alloc (exObj x s) = w3 at *
      obtain ⟨f0, f1, f2, f3, f4, f5, f6, f7, _⟩ := Box8.cells HF.out
      have fl := HF.out.lt
      obtain ⟨x0, x1, x2, x3, x4, x5, x6, x7, xf⟩ := (Box8.cells HX.out)
      have y0 := xf 0
      have y1 := xf 1
      have y2 := xf 2
      have y3 := xf 3
      have y4 := xf 4
      have y5 := xf 5
      have y6 := xf 6
      have y7 := xf 7
      have hxl := HX.out.lt
      clear xf
      have HS := Lib.hid (text_ret HP.out (by rw [HW0.out]; exact HK.out) HX.out HA.out rfl)
      unfold set8 at HS
      go_wp2_with fail
      generalize World.setCell _ _ _ = w9 at *
      rw [HR.out]
      exact ret_expr Tryd.results57 rfl rfl (HS.out _ (Below.refl _ _))
    · have B0 : (t.1.kind != 0) = true := by rw [bne_iff_ne]; exact hk
      rw [if_neg (show ¬ isKind 0 t = true from fun h => hk (of_decide_eq_true h))] at HR
      clear hk
      have HRF := Lib.hid (p_refuse p t S _ HK.out.at_)
      unfold exOf exV
      go_wp2_with fail
      refine HRF.out.mono ?_
      rintro e W2 h9
      obtain ⟨rfl, hb2⟩ := h9
      have HB := Lib.hid (text_bad HP.out (by rw [HW0.out]; exact grown_below HK.out.grown hb2))
      clear hb2
      unfold faultV
      go_wp2_with fail
      exact ⟨rfl, by rw [HR.out]; exact ⟨t, S, rfl, rfl, HB.out⟩⟩
end Go.Proofs.YthnefcodjkllgaaDoor
