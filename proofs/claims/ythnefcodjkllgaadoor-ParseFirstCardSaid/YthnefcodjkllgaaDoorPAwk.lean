/-
  The laws' own first look at the parser.
-/
import Derived.Test.YthnefcodjkllgaaDoorPParse
namespace Go.Proofs.YthnefcodjkllgaaDoor
open Go.RowKit
/-- The first text of the laws' own look, and its tree. -/
def txA : List UInt8 := [97, 32, 45, 32, 98, 32, 45, 32, 99, 59, 32, 100]
def txB : List UInt8 := [97, 32, 61, 32, 98, 32, 61, 32, 99]
def awA : Nd := match ParseV txA with | .ok x => x | .bad _ _ => .mk ⟨0, 0, [], 0, [], []⟩ [] []
theorem aw_ok : ParseV txA = .ok awA := by
  have h : (match ParseV txA with | .ok _ => true | .bad _ _ => false) = true := by kernel_rfl
  unfold awA
  cases hp : ParseV txA with
  | ok x => rfl
  | bad e q => rw [hp] at h; cases h
theorem aw_bad : ParseV txB = .bad 21 6 := by
  have h : (match ParseV txB with | .bad e q => decide (e = 21 ∧ q = 6) | .ok _ => false) = true := by kernel_rfl
  cases hp : ParseV txB with
  | ok x => rw [hp] at h; cases h
  | bad e q =>
    rw [hp] at h
    obtain ⟨rfl, rfl⟩ := of_decide_eq_true h
    rfl
theorem aw_kind : awA.hd.kind = 20 := by kernel_rfl
theorem aw_pos : awA.hd.pos = 9 := by kernel_rfl
theorem aw_args : awA.args.length = 2 := by kernel_rfl
theorem aw_n : (awA.args.map fun a => a.hd.n).head? = some 2 := by kernel_rfl
theorem aw_count : (awA.parts 1).length = 7 := by kernel_rfl
theorem aw_deep : deepV 2 awA = some 2 := by kernel_rfl
theorem IsE.arg0 {w : World} {N : Nat → Prop} {x a : Nd} {r : List Nd} {s : Sl} (h : IsE w N (exL x s) x) (ha : x.args = a :: r) : ∃ g, s.aa = some ⟨g, 0, none⟩ ∧ N g ∧ g < w.heap.size ∧ w.cell? ⟨g, 3, none⟩ = some (.int .i64 a.hd.n) := by
  cases x with
  | mk hd l m =>
    obtain rfl : l = a :: r := ha
    obtain ⟨vl, va, vr, he, _, ⟨L, h4, h5⟩, _⟩ := h
    cases L with
    | nil => exact h5.elim
    | cons cs L =>
      have h6 := h5.1
      cases a with
      | mk ha al am =>
        obtain ⟨ul, ua, ur, rfl, _⟩ := h6
        have hv : va = .slice s.aa (r.length + 1) s.ac := by
          have h7 := congrArg (fun l : List Value => l[6]?) he
          exact (Option.some.inj h7).symm
        subst hv
        have h8 := h4.1
        rcases h8.2 with ⟨_, h9⟩ | ⟨g, cap, cur, hv, _, hg, _⟩
        · cases h9
        · obtain ⟨e1, _, _⟩ := Value.slice.inj hv
          refine ⟨g, e1, h4.2 g (by rw [hv]; rfl), box_lt hg, ?_⟩
          rw [hv] at h8
          have h10 := World.ownsRow.cellAt h8 3 (by show 3 < (r.length + 1) * 8; omega)
          exact h10.trans rfl
theorem aw_parse1 (w : World) (hy : Ready w) : Calls Tryd.prog 32 #[.string ⟨#[97, 32, 45, 32, 98, 32, 45, 32, 99, 59, 32, 100]⟩] w (Parsed (.ok awA) w) := by
  rw [← aw_ok]; exact p_parse ⟨#[97, 32, 45, 32, 98, 32, 45, 32, 99, 59, 32, 100]⟩ w hy
theorem aw_parse2 (w : World) (hy : Ready w) : Calls Tryd.prog 32 #[.string ⟨#[97, 32, 61, 32, 98, 32, 61, 32, 99]⟩] w (Parsed (.bad 21 6) w) := by
  rw [← aw_bad]; exact p_parse ⟨#[97, 32, 61, 32, 98, 32, 61, 32, 99]⟩ w hy
theorem aw_arg : ∃ a r, awA.args = a :: r ∧ a.hd.n = 2 := by
  have h := aw_n
  cases ha : awA.args with
  | nil => rw [ha] at h; cases h
  | cons a r => rw [ha] at h; exact ⟨a, r, rfl, Option.some.inj h⟩
set_option maxRecDepth 100000 in
set_option maxHeartbeats 4000000 in
theorem awake6_any (w : World) (hy : Ready w) : Calls Tryd.prog 28 #[] w (YesMade true w) := by
  have HY := Lib.hid hy
  clear hy
  go_enter Tryd.func28, Tryd.ntmps28
  go_wp2_with fail
  refine (aw_parse1 _ HY.out).mono ?_
  rintro e w1 ⟨hb1, s1, rfl, hi⟩
  have HB1 := Lib.hid hb1
  have HI := Lib.hid hi
  clear hb1 hi
  unfold exOf exV
  go_wp2_with fail
  all_goals
    obtain ⟨W1, hW1⟩ : ∃ W, w1.alloc (exObj awA s1) = W := ⟨_, rfl⟩
    have hbx := below_one' (w := w1) (exObj awA s1)
    have HF : Hid (ExBox W1 w1.heap.size awA s1) := Lib.hid (by rw [← hW1]; exact ExBox.new w1 awA s1)
    rw [hW1] at hbx
    have HB2 := Lib.hid (HB1.out.trans (hbx.mono HB1.out.size))
    have HI2 := Lib.hid (HI.out.below hbx)
    unfold exObj at hW1
    try rw [hW1]
    clear hW1 hbx
    generalize w1.heap.size = bx at *
    refine (aw_parse2 _ (HY.out.below HB2.out)).mono ?_
    rintro e w2 ⟨hb2, rfl⟩
    have HB3 := Lib.hid (HB2.out.trans (hb2.mono HB2.out.size))
    have HI3 := Lib.hid (HI2.out.below hb2)
    have HF3 := Lib.hid (HF.out.below hb2)
    clear hb2 HF HI2 HB2 HB1 HI
    unfold errV exV
    go_upto_region 3 with fail
    all_goals
      obtain ⟨W2, hW2⟩ : ∃ W, w2.alloc zeroObj = W := ⟨_, rfl⟩
      have hbx := below_one' (w := w2) zeroObj
      rw [hW2] at hbx
      have HB4 := Lib.hid (HB3.out.trans (hbx.mono HB3.out.size))
      have HI4 := Lib.hid (HI3.out.below hbx)
      have HF4 := Lib.hid (HF3.out.below hbx)
      unfold zeroObj at hW2
      try rw [hW2]
      clear hW2 hbx HB3 HI3 HF3
      obtain ⟨f0, f1, f2, f3, f4, f5, f6, f7, _⟩ := Box8.cells HF4.out
      have fl := HF4.out.lt
      have HC := p_count awA s1 99 W2 (HI4.out.wide fun _ _ => trivial) (by rw [aw_count]; decide) (by decide) (by decide)
      rw [show countV (awA.parts 1).length 99 = 7 by rw [aw_count]; rfl] at HC
      unfold exOf exV at HC
      replace HC := Lib.hid HC
      go_wp2_with fail
      refine HC.out.mono ?_
      rintro e w3 ⟨rfl, hb⟩
      have HB5 := Lib.hid (HB4.out.trans (hb.mono HB4.out.size))
      have HI5 := Lib.hid (HI4.out.below hb)
      have HF5 := Lib.hid (HF4.out.below hb)
      clear HC hb f0 f1 f2 f3 f4 f5 f6 f7 fl HB4 HI4 HF4
      obtain ⟨f0, f1, f2, f3, f4, f5, f6, f7, _⟩ := Box8.cells HF5.out
      have fl := HF5.out.lt
      have HC := p_deep awA s1 2 w3 (HI5.out.wide fun _ _ => trivial) (by rw [aw_count]; decide)
      rw [aw_deep] at HC
      simp only [Option.getD_some, Option.isSome_some] at HC
      unfold exOf exV at HC
      replace HC := Lib.hid HC
      go_wp2_with fail
      refine HC.out.mono ?_
      rintro e w4 ⟨rfl, hb⟩
      have HB6 := Lib.hid (HB5.out.trans (hb.mono HB5.out.size))
      have HI6 := Lib.hid (HI5.out.below hb)
      have HF6 := Lib.hid (HF5.out.below hb)
      clear HC hb f0 f1 f2 f3 f4 f5 f6 f7 fl HB5 HI5 HF5
      obtain ⟨f0, f1, f2, f3, f4, f5, f6, f7, _⟩ := Box8.cells HF6.out
      have fl := HF6.out.lt
      obtain ⟨a0, r0, ha0, ha1⟩ := aw_arg
      obtain ⟨g, hg0, hg1, hg2, hg3⟩ := HI6.out.arg0 ha0
      rw [ha1] at hg3
      rw [aw_kind] at f0
      rw [aw_pos] at f1
      rw [hg0, aw_args] at f6
      clear hg0 ha0 ha1
      go_wp2_with fail
      all_goals
        go_ret
        exact ⟨rfl, HB6.out⟩
end Go.Proofs.YthnefcodjkllgaaDoor
