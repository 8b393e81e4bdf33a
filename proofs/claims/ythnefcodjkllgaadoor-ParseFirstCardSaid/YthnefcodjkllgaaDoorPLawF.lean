/-
  The law ParseFirst: the walk.
-/
import Derived.Test.YthnefcodjkllgaaDoorPLawC
namespace Go.Proofs.YthnefcodjkllgaaDoor
open Go.RowKit
attribute [local go_sem] Oper.semAt_some
set_option maxRecDepth 100000 in
set_option maxHeartbeats 4000000 in
theorem law_First (s t : ByteArray) (w : World) (hy : Ready w) (_hs : s.size ≤ 140737488355328) (_ht : t.size ≤ 140737488355328) : Calls Tryd.prog 13 #[.string s, .string t] w (YesMade true w) := by
  have HY := Lib.hid hy
  clear hy
  go_enter Tryd.func13, Tryd.ntmps13
  go_wp2_with fail
  refine (awake6_any _ HY.out).mono ?_
  rintro e w1 ⟨rfl, hb1⟩
  replace HY := Lib.hid (HY.out.below hb1)
  have HB1 := Lib.hid hb1
  clear hb1
  go_wp2_with fail
  refine (p_parse s _ HY.out).mono ?_
  have HJ : Hid (∀ U, LexV (s.data.toList ++ 32 :: t.data.toList) = .ok U → ∀ q, ParseV s.data.toList = .bad 21 q → q < s.size → ParseV (s.data.toList ++ 32 :: t.data.toList) = .bad 21 q) := Lib.hid (fun U hU q hq hl => parse_first hq hl hU)
  rcases parseV_codes s.data.toList with ⟨x, hx⟩ | ⟨er, q, hx, hq⟩
  · rw [hx]
    rintro e w2 ⟨hb2, s1, rfl, hi⟩
    have HBX := Lib.hid (below_one' (w := w2) (exObj x s1))
    replace HB1 := Lib.hid ((HB1.out.trans (hb2.mono HB1.out.size)).trans (HBX.out.mono (HB1.out.trans (hb2.mono HB1.out.size)).size))
    have HY2 := Lib.hid ((HY.out.below hb2).below HBX.out)
    clear hb2 hi HBX HJ
    unfold exOf exV
    go_wp2_with fail
    all_goals
      generalize w2.alloc _ = W3 at *
      refine (lex_out _ _ HY2.out.syms).mono ?_
      rintro e w3 ⟨v, er2, q2, rfl, hb3, hl⟩
      have HB3 := Lib.hid (HB1.out.trans (hb3.mono HB1.out.size))
      clear hb3 hl
      go_wp2_with fail
      all_goals
        go_ret
        exact ⟨rfl, HB3.out⟩
  · rw [hx]
    rintro e w2 ⟨hb2, rfl⟩
    have HBX := Lib.hid (below_one' (w := w2) zeroObj)
    replace HB1 := Lib.hid ((HB1.out.trans (hb2.mono HB1.out.size)).trans (HBX.out.mono (HB1.out.trans (hb2.mono HB1.out.size)).size))
    have HY2 := Lib.hid ((HY.out.below hb2).below HBX.out)
    clear hb2 HBX
    unfold errV exV
    rcases hq with rfl | rfl | rfl | rfl | rfl | rfl
    case inr.inr.inr.inr.inr =>
      by_cases hq2 : q < s.size
      · have g1 : ¬ ((s.size : Int) ≤ (q : Int)) := by omega
        have g1' : decide ((s.size : Int) ≤ (q : Int)) = false := decide_eq_false g1
        have g2 : ¬ (s.size ≤ q) := by omega
        have g2' : decide (s.size ≤ q) = false := decide_eq_false g2
        have HOWN : Hid ((s ++ (⟨#[32]⟩ : ByteArray) ++ t).data.toList = s.data.toList ++ 32 :: t.data.toList) := Lib.hid (by simp)
        replace HJ : Hid (∀ U, LexV (s.data.toList ++ 32 :: t.data.toList) = .ok U → ParseV (s.data.toList ++ 32 :: t.data.toList) = .bad 21 q) := Lib.hid (fun U hU => HJ.out U hU q hx hq2)
        clear hx hq2
        go_wp2_with fail
        all_goals
          generalize w2.alloc _ = W3 at *
          refine (lex_out _ _ HY2.out.syms).mono ?_
          rintro e w3 ⟨v, er2, q2, rfl, hb3, hl⟩
          have HB3 := Lib.hid (HB1.out.trans (hb3.mono HB1.out.size))
          have HY3 := Lib.hid (HY2.out.below hb3)
          clear hb3
          by_cases he : er2 = 0
          · subst he
            have HP : Hid (ParseV (s ++ (⟨#[32]⟩ : ByteArray) ++ t).data.toList = .bad 21 q) := Lib.hid (by
              rcases hl with ⟨_, _, h3, X, h4, _⟩ | ⟨_, ⟨h, _⟩ | ⟨_, h, _⟩⟩
              · have h5 := lexV_ok h4 h3
                rw [HOWN.out] at h5 ⊢
                exact HJ.out _ h5
              · omega
              · omega)
            clear hl HJ HOWN
            go_wp2_with fail
            refine (p_parse _ _ HY3.out).mono ?_
            rw [HP.out]
            rintro e w4 ⟨hb4, rfl⟩
            have HB4 := Lib.hid ((HB3.out.trans (hb4.mono HB3.out.size)).trans ((below_one' (w := w4) zeroObj).mono (HB3.out.trans (hb4.mono HB3.out.size)).size))
            clear hb4
            unfold errV exV
            go_wp2_with fail
            all_goals
              go_ret
              exact ⟨by simp, HB4.out⟩
          · have hne : (er2 != 0) = true := by rw [bne_iff_ne]; exact he
            clear hl he HJ HOWN
            go_wp2_with fail
            all_goals
              go_ret
              exact ⟨rfl, HB3.out⟩
      · have g1 : ((s.size : Int) ≤ (q : Int)) := by omega
        have g1' : decide ((s.size : Int) ≤ (q : Int)) = true := decide_eq_true g1
        have g2 : (s.size ≤ q) := by omega
        have g2' : decide (s.size ≤ q) = true := decide_eq_true g2
        clear hx hq2 HJ
        go_wp2_with fail
        all_goals
          generalize w2.alloc _ = W3 at *
          refine (lex_out _ _ HY2.out.syms).mono ?_
          rintro e w3 ⟨v, er2, q2, rfl, hb3, hl⟩
          have HB3 := Lib.hid (HB1.out.trans (hb3.mono HB1.out.size))
          clear hb3 hl
          go_wp2_with fail
          all_goals
            go_ret
            exact ⟨rfl, HB3.out⟩
    all_goals
      clear hx HJ
      go_wp2_with fail
      all_goals
        generalize w2.alloc _ = W3 at *
        refine (lex_out _ _ HY2.out.syms).mono ?_
        rintro e w3 ⟨v, er2, q2, rfl, hb3, hl⟩
        have HB3 := Lib.hid (HB1.out.trans (hb3.mono HB1.out.size))
        clear hb3 hl
        go_wp2_with fail
        all_goals
          go_ret
          exact ⟨rfl, HB3.out⟩
end Go.Proofs.YthnefcodjkllgaaDoor
