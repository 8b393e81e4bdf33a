/-
  The law ParseBrackets: the walk.
-/
import Derived.Test.YtecpldnjpapalaaDoorPBoth
namespace Go.Proofs.YtecpldnjpapalaaDoor
open Go.RowKit
attribute [local go_sem] Oper.semAt_some
theorem brackets_rel {l : List UInt8} (hl : l.length + 2 ≤ 4096) (h : (ParseV l).err = 0) : (ParseV (40 :: (l ++ [41]))).err = 0 ∧ (ParseV l).tree.er = (ParseV (40 :: (l ++ [41]))).tree.er := by
  obtain ⟨x, hx⟩ := parseV_err0 h
  obtain ⟨y, hy, he⟩ := parse_brackets hx hl
  rw [hx, hy]
  exact ⟨rfl, he.symm⟩
set_option maxRecDepth 100000 in
set_option maxHeartbeats 4000000 in
theorem law_Brackets (s : ByteArray) (w : World) (hy : Ready w) (hs : s.size ≤ 140737488355328) : Calls Tryd.prog 6 #[.string s] w (YesMade true w) := by
  have HY := Lib.hid hy
  clear hy
  have E1 : IntKind.i64.wrap ((s.size : Int) + 2) = (s.size : Int) + 2 := by rw [IntKind.wrap_i64]; omega
  have hls : s.data.toList.length = s.size := rfl
  have HJ : Hid (s.size + 2 ≤ 4096 → (ParseV s.data.toList).err = 0 → (ParseV ((⟨#[40]⟩ : ByteArray) ++ s ++ ⟨#[41]⟩).data.toList).err = 0 ∧ (ParseV s.data.toList).tree.er = (ParseV ((⟨#[40]⟩ : ByteArray) ++ s ++ ⟨#[41]⟩).data.toList).tree.er) := Lib.hid (fun hl h => by
    have h9 : ((⟨#[40]⟩ : ByteArray) ++ s ++ ⟨#[41]⟩).data.toList = 40 :: (s.data.toList ++ [41]) := by simp
    rw [h9]
    exact brackets_rel (by omega) h)
  clear hls
  go_enter Tryd.func6, Tryd.ntmps6
  go_wp2_with fail
  refine (awake6_any _ HY.out).mono ?_
  rintro e w1 ⟨rfl, hb1⟩
  replace HY := Lib.hid (HY.out.below hb1)
  have HB1 := Lib.hid hb1
  clear hb1
  by_cases hb : 4096 < s.size + 2
  · have g1 : decide ((4096 : Int) < (s.size : Int) + 2) = true := decide_eq_true (by omega)
    have g2 : decide (4096 < s.size + 2) = true := decide_eq_true hb
    go_wp2_with fail
    go_ret
    exact ⟨rfl, HB1.out⟩
  · have g1 : decide ((4096 : Int) < (s.size : Int) + 2) = false := decide_eq_false (by omega)
    have g2 : decide (4096 < s.size + 2) = false := decide_eq_false hb
    replace HJ := Lib.hid (HJ.out (by omega))
    go_upto_region 5 with fail
    clear g1 g2 hb E1
    go_wp2_with fail
    refine (p_parse_t s _ HY.out).mono ?_
    rintro e w2 ⟨hb2, s1, rfl, hi⟩
    have HB2 := Lib.hid (HB1.out.trans (hb2.mono HB1.out.size))
    replace HY := Lib.hid (HY.out.below hb2)
    have HI := Lib.hid hi
    clear hb2 hi HB1
    generalize ParseV s.data.toList = r1 at *
    unfold exOf exV
    go_wp2_with fail
    all_goals
      obtain ⟨W2, hW2⟩ : ∃ W, w2.alloc (exObj r1.tree s1) = W := ⟨_, rfl⟩
      have hbx := below_one' (w := w2) (exObj r1.tree s1)
      have HX : Hid (InBox W2 w2.heap.size r1.tree s1) := Lib.hid (by rw [← hW2]; exact InBox.new HI.out)
      rw [hW2] at hbx
      have HB3 := Lib.hid (HB2.out.trans (hbx.mono HB2.out.size))
      have HY3 := Lib.hid (HY.out.below hbx)
      unfold exObj at hW2
      try rw [hW2]
      clear hW2 hbx HB2 HI
      generalize w2.heap.size = bx at *
      refine (p_parse_t _ _ HY3.out).mono ?_
      rintro e w3 ⟨hb3, s2, rfl, hi⟩
      have HB4 := Lib.hid (HB3.out.trans (hb3.mono HB3.out.size))
      have HX4 := Lib.hid (HX.out.below hb3)
      have HI := Lib.hid hi
      clear hb3 hi HB3 HX
      generalize ParseV ((⟨#[40]⟩ : ByteArray) ++ s ++ ⟨#[41]⟩).data.toList = r2 at *
      unfold exOf exV
      go_upto_region 7 with fail
      all_goals
        obtain ⟨W4, hW4⟩ : ∃ W, w3.alloc (exObj r2.tree s2) = W := ⟨_, rfl⟩
        have hbx := below_one' (w := w3) (exObj r2.tree s2)
        have HZ : Hid (InBox W4 w3.heap.size r2.tree s2) := Lib.hid (by rw [← hW4]; exact InBox.new HI.out)
        rw [hW4] at hbx
        have HB5 := Lib.hid (HB4.out.trans (hbx.mono HB4.out.size))
        have HX5 := Lib.hid (HX4.out.below hbx)
        unfold exObj at hW4
        try rw [hW4]
        clear hW4 hbx HB4 HX4 HI HY HY3
        generalize w3.heap.size = bz at *
        by_cases he : r1.err = 0
        · obtain ⟨h1, h2⟩ := HJ.out he
          have e1 : (r1.err != 0) = false := by rw [bne_eq_false_iff_eq]; exact he
          have e2 : (r2.err == 0) = true := by rw [beq_iff_eq]; exact h1
          have HC := r_same_any false r1.tree r2.tree s1 s2 W4 HX5.out.tree HZ.out.tree
          rw [(alike_er _ _).2 h2] at HC
          unfold exOf exV at HC
          replace HC := Lib.hid HC
          obtain ⟨f0, f1, f2, f3, f4, f5, f6, f7, _⟩ := Box8.cells HX5.out.box
          have fl := HX5.out.box.lt
          obtain ⟨g0, g1, g2, g3, g4, g5, g6, g7, _⟩ := Box8.cells HZ.out.box
          have gl := HZ.out.box.lt
          clear he h1 h2 HJ
          go_wp2_with fail
          refine HC.out.mono ?_
          rintro e w5 ⟨rfl, hb5⟩
          have HB6 := Lib.hid (HB5.out.trans (hb5.mono HB5.out.size))
          clear hb5
          go_wp2_with fail
          go_ret
          exact ⟨rfl, HB6.out⟩
        · have e1 : (r1.err != 0) = true := by rw [bne_iff_ne]; exact he
          clear he HJ
          go_wp2_with fail
          all_goals
            go_ret
            exact ⟨rfl, HB5.out⟩
end Go.Proofs.YtecpldnjpapalaaDoor
