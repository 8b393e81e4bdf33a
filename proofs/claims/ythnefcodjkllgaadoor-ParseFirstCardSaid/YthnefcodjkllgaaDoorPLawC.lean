/-
  The law ParseCuts: the walk.
-/
import Derived.Test.YthnefcodjkllgaaDoorPAwk
namespace Go.Proofs.YthnefcodjkllgaaDoor
open Go.RowKit
attribute [local go_sem] Oper.semAt_some
theorem parseV_codes (l : List UInt8) : (∃ x, ParseV l = .ok x) ∨ ∃ e q, ParseV l = .bad e q ∧ (e = 20 ∨ e = 2 ∨ e = 4 ∨ e = 22 ∨ e = 3 ∨ e = 21) := by
  rcases parseV_form l with ⟨e, q, h1, h2⟩ | ⟨X, hX, hl, hV, ⟨x, _, h2⟩ | ⟨A, t, B, hT, hv, h2⟩⟩
  · refine .inr ⟨e, q, h2, ?_⟩
    rcases lexV_form l with ⟨X, h3, _⟩ | ⟨h3, _⟩ | ⟨e', q', h3, _, _, h4, _⟩
    · rw [h1] at h3; cases h3
    · rw [h1] at h3
      obtain ⟨rfl, rfl⟩ := LR.bad.inj h3
      omega
    · rw [h1] at h3
      obtain ⟨rfl, rfl⟩ := LR.bad.inj h3
      omega
  · rcases treeV_form x with h | h | ⟨q, h⟩
    · exact .inl ⟨x, h2.trans h⟩
    · exact .inr ⟨3, 0, h2.trans h, by omega⟩
    · exact .inr ⟨22, q, h2.trans h, by omega⟩
  · exact .inr ⟨21, t.2, h2, by omega⟩
set_option maxRecDepth 100000 in
set_option maxHeartbeats 4000000 in
theorem law_Cuts (s : ByteArray) (w : World) (hy : Ready w) (_hs : s.size ≤ 140737488355328) : Calls Tryd.prog 10 #[.string s] w (YesMade true w) := by
  have HY := Lib.hid hy
  clear hy
  go_enter Tryd.func10, Tryd.ntmps10
  go_wp2_with fail
  refine (awake6_any _ HY.out).mono ?_
  rintro e w1 ⟨rfl, hb1⟩
  replace HY := Lib.hid (HY.out.below hb1)
  have HB1 := Lib.hid hb1
  clear hb1
  go_wp2_with fail
  refine (p_parse s _ HY.out).mono ?_
  rcases parseV_codes s.data.toList with ⟨x, hx⟩ | ⟨er, q, hx, hq⟩
  · rw [hx]
    rintro e w2 ⟨hb2, s1, rfl, hi⟩
    have HB2 := Lib.hid (HB1.out.trans (hb2.mono HB1.out.size))
    have HBX := Lib.hid (below_one' (w := w2) (exObj x s1))
    clear hb2 hi HB1
    unfold exOf exV
    go_wp2_with fail
    all_goals
      go_ret
      exact ⟨rfl, HB2.out.trans (HBX.out.mono HB2.out.size)⟩
  · rw [hx]
    rintro e w2 ⟨hb2, rfl⟩
    have HB2 := Lib.hid (HB1.out.trans (hb2.mono HB1.out.size))
    have HBX := Lib.hid (below_one' (w := w2) zeroObj)
    have HY2 := Lib.hid (HY.out.below hb2)
    clear hb2 HB1
    unfold errV exV
    rcases hq with rfl | rfl | rfl | rfl | rfl | rfl
    case inr.inr.inr.inr.inr =>
      obtain ⟨hql, hcut⟩ := parse_cut hx
      have hlen : s.data.toList.length = s.size := rfl
      have g1 : ¬ ((q : Int) < 0) := by omega
      have g1' : decide ((q : Int) < 0) = false := decide_eq_false g1
      have g2 : ¬ ((s.size : Int) < (q : Int)) := by omega
      have g2' : decide ((s.size : Int) < (q : Int)) = false := decide_eq_false g2
      have g3 : q ≤ s.size := by omega
      have hex : (s.extract 0 q).data.toList = s.data.toList.take q := by rw [Lib.extract_data]; simp
      have HCUT : Hid ((∃ x, ParseV (s.extract 0 q).data.toList = .ok x) ∨ ∃ e q', ParseV (s.extract 0 q).data.toList = .bad e q' ∧ (e = 3 ∨ e = 22 ∨ e = 21 ∧ q' = q)) := Lib.hid (by
        rw [hex]
        rcases hcut with ⟨x, h⟩ | h
        · rcases treeV_form x with h2 | h2 | ⟨q', h2⟩
          · exact .inl ⟨x, h.trans h2⟩
          · exact .inr ⟨_, _, h.trans h2, by omega⟩
          · exact .inr ⟨_, _, h.trans h2, by omega⟩
        · exact .inr ⟨_, _, h, by omega⟩)
      clear hcut hql hx hlen hex
      go_wp2_with fail
      all_goals
        generalize w2.alloc _ = W3 at *
        refine (p_parse _ _ (HY2.out.below HBX.out)).mono ?_
        have HB3 := Lib.hid (HB2.out.trans (HBX.out.mono HB2.out.size))
        rcases HCUT.out with ⟨x, hx⟩ | ⟨e2, q2, hx, rfl | rfl | ⟨rfl, rfl⟩⟩
        case inl =>
          rw [hx]
          rintro e w4 ⟨hb4, s1, rfl, _⟩
          have HB4 := Lib.hid ((HB3.out.trans (hb4.mono HB3.out.size)).trans ((below_one' (w := w4) (exObj x s1)).mono (HB3.out.trans (hb4.mono HB3.out.size)).size))
          clear hb4
          unfold exOf exV
          go_wp2_with fail
          all_goals
            go_ret
            exact ⟨rfl, HB4.out⟩
        all_goals
          rw [hx]
          rintro e w4 ⟨hb4, rfl⟩
          have HB4 := Lib.hid ((HB3.out.trans (hb4.mono HB3.out.size)).trans ((below_one' (w := w4) zeroObj).mono (HB3.out.trans (hb4.mono HB3.out.size)).size))
          clear hb4
          unfold errV exV
          go_wp2_with fail
          all_goals
            go_ret
            exact ⟨rfl, HB4.out⟩
    all_goals
      go_wp2_with fail
      all_goals
        go_ret
        exact ⟨rfl, HB2.out.trans (HBX.out.mono HB2.out.size)⟩
end Go.Proofs.YthnefcodjkllgaaDoor
