/-
  Lex: the walks of the document's own quote and Signs.
-/
import Derived.Test.YtigbapkdpaahjaaDoorLRef
namespace Go.Proofs.YtigbapkdpaahjaaDoor
open Go.RowKit
/-- How many \\ stand just before the place a + 1 + d, behind the place a. -/
def trB (s : ByteArray) (a : Nat) : Nat → Nat
  | 0 => 0
  | d + 1 => if s.data.toList.getD (a + 1 + d) 0 = 92 then trB s a d + 1 else 0
theorem trB_le (s : ByteArray) (a d : Nat) : trB s a d ≤ d := by
  induction d with
  | zero => exact Nat.le_refl _
  | succ d ih => unfold trB; split <;> omega
theorem trB_yes {s : ByteArray} {a d : Nat} (hk : a + 1 + d < s.size) (h : s[a + 1 + d] = 92) : trB s a (d + 1) = trB s a d + 1 := by
  show (if _ then _ else _) = _
  rw [if_pos (by rw [getD_of s _ hk]; exact h)]
theorem trB_no {s : ByteArray} {a d : Nat} (hk : a + 1 + d < s.size) (h : s[a + 1 + d] ≠ 92) : trB s a (d + 1) = 0 := by
  show (if _ then _ else _) = _
  rw [if_neg (by rw [getD_of s _ hk]; exact h)]
/-- At the place i = a + 1 + d a quoted text's end is looked for. -/
def QuoAt (s : ByteArray) (a d : Nat) : Prop := qsize (s.data.toList.drop a) = qscan (decide (trB s a d % 2 = 1)) (d + 1) (s.data.toList.drop (a + 1 + d))
theorem QuoAt.start (s : ByteArray) (a : Nat) : QuoAt s a 0 := by
  unfold QuoAt qsize
  rw [List.drop_drop]
  rfl
theorem QuoAt.here {s : ByteArray} {a d : Nat} (h : QuoAt s a d) (hk : a + 1 + d < s.size) : (s[a + 1 + d] = 34 ∧ trB s a d % 2 = 0 ∧ qsize (s.data.toList.drop a) = d + 2) ∨ (¬ (s[a + 1 + d] = 34 ∧ trB s a d % 2 = 0) ∧ QuoAt s a (d + 1)) := by
  unfold QuoAt at h
  rw [drop_cons s _ hk, qscan] at h
  by_cases hc : s[a + 1 + d] = 34 ∧ trB s a d % 2 = 0
  · rw [if_pos ⟨hc.1, decide_eq_false (by omega)⟩] at h
    exact .inl ⟨hc.1, hc.2, h⟩
  · rw [if_neg (fun hx => hc ⟨hx.1, by have := of_decide_eq_false hx.2; omega⟩)] at h
    refine .inr ⟨hc, ?_⟩
    unfold QuoAt
    rw [h]
    have hp : (decide (s[a + 1 + d] = 92) && !decide (trB s a d % 2 = 1)) = decide (trB s a (d + 1) % 2 = 1) := by
      by_cases h9 : s[a + 1 + d] = 92
      · rw [trB_yes hk h9, decide_eq_true h9, Bool.true_and]
        by_cases h8 : trB s a d % 2 = 1
        · rw [decide_eq_true h8, decide_eq_false (by omega)]; rfl
        · rw [decide_eq_false h8, decide_eq_true (by omega)]; rfl
      · rw [trB_no hk h9, decide_eq_false h9]; rfl
    rw [hp, show a + 1 + (d + 1) = a + 1 + d + 1 by omega]
theorem QuoAt.stop {s : ByteArray} {a d : Nat} (h : QuoAt s a d) (hk : ¬ a + 1 + d < s.size) : qsize (s.data.toList.drop a) = 0 := by
  unfold QuoAt at h
  rw [h, List.drop_eq_nil_of_le (show s.data.toList.length ≤ a + 1 + d by show s.size ≤ _; omega)]
  rfl
def quoEnd (s : ByteArray) (a : Nat) : Int := if qsize (s.data.toList.drop a) = 0 then -1 else ((a + qsize (s.data.toList.drop a) : Nat) : Int)
set_option maxRecDepth 100000 in
set_option maxHeartbeats 2000000 in
theorem ref_quote (s : ByteArray) (a : Nat) (w : World) (hs : s.size ≤ 1000000) (ha : a < s.size) : Calls Tryd.prog 33 #[.string s, .int .i64 (a : Int)] w fun e w' => e = .returned (.int .i64 (quoEnd s a)) ∧ w = w' := by
  have HQ0 := Lib.hid (QuoAt.start s a)
  have HYE := Lib.hid (fun (d : Nat) (h : qsize (s.data.toList.drop a) = d + 2) => (show quoEnd s a = ((a + 1 + d + 1 : Nat) : Int) by unfold quoEnd; rw [if_neg (by omega), h]; congr 1; omega))
  have HNO := Lib.hid (fun (h : qsize (s.data.toList.drop a) = 0) => (show quoEnd s a = -1 by unfold quoEnd; rw [if_pos h]))
  go_enter Tryd.func33, Tryd.ntmps33
  go_wp2_with fail
  go_loopw [5] (fun vi wr => ∃ d : Nat, a + 1 + d ≤ s.size ∧ vi = .int .i64 ((a + 1 + d : Nat) : Int) ∧ wr = w ∧ Hid (QuoAt s a d)) (fun vi _ => s.size - (intOf vi).toNat)
  case atStart => exact ⟨0, by omega, by go_num, rfl, HQ0⟩
  case round =>
    obtain ⟨d, hd, rfl, rfl, HQ⟩ := hrel
    clear HQ0
    obtain ⟨i, hi⟩ : ∃ i, a + 1 + d = i := ⟨_, rfl⟩
    by_cases hk : i < s.size
    · as_aux_lemma =>
        have hk' : a + 1 + d < s.size := by omega
        have HH := Lib.hid (HQ.out.here hk')
        have hix := fun W => index_at s i hk i rfl W
        have g1 : decide ((i : Int) < (s.size : Int)) = true := decide_eq_true (by omega)
        have HT : Hid (trB s a d ≤ d) := Lib.hid (trB_le s a d)
        have HSI : Hid (s[a + 1 + d] = s[i]) := Lib.hid (by simp only [hi])
        rw [hi]
        clear HQ
        generalize hT : trB s a d = T at *
        have HT2 := Lib.hid hT
        clear hT
        go_wp2_with fail
        have HWV : Hid (((a + 1 + (d + 1) : Nat) : Int) = (i : Int) + 1) := Lib.hid (by omega)
        have HMES : Hid (i < s.size) := Lib.hid hk
        go_loopw [6, 7] (fun vn vk w5 => ∃ (nn e : Nat), e ≤ d ∧ Hid (nn + trB s a e = T) ∧ nn ≤ T ∧ vn = .int .i64 (nn : Int) ∧ vk = .int .i64 ((a + e : Nat) : Int) ∧ w5 = wr) (fun _ vk _ => (intOf vk).toNat)
        case atStart => exact ⟨0, d, Nat.le_refl _, Lib.hid (by rw [HT2.out]; omega), Nat.zero_le _, by go_num, by first | rfl | (congr 1; omega) | skip, rfl⟩
        case round =>
          obtain ⟨nn, e, he, HNT, hnT, rfl, rfl, rfl⟩ := hrel
          cases e with
          | zero =>
            have hnn : nn = T := by have := HNT.out; unfold trB at this; omega
            have g2 : decide ((a : Int) < ((a + 0 : Nat) : Int)) = false := decide_eq_false (by omega)
            have g3 : decide ((a : Int) < (a : Int)) = false := decide_eq_false (by omega)
            clear HNT he hnT
            go_upto_region 9 with fail
            clear g2 g3
            obtain rfl : nn = T := by omega
            have g9 : (0 : Int) ≤ (nn : Int) := by omega
            have hmes := HMES.out
            rcases HH.out with ⟨h34, heven, hq⟩ | ⟨hnot, hq⟩
            · have HE := Lib.hid (HYE.out d hq)
              have hm2 : (nn : Int) % 2 = 0 := by omega
              rw [HSI.out] at h34
              rw [hi] at HE
              generalize s[i] = c at *
              subst h34
              clear heven hq HH HT HT2 HSI HYE HNO
              go_wp2_with fail
              go_ret
              exact ⟨by rw [HE.out, Int.natCast_add]; rfl, by trivial⟩
            · have HQN := Lib.hid hq
              rw [HSI.out] at hnot
              by_cases h34 : s[i] = 34
              · have hm2 : (nn : Int) % 2 = 1 := by
                  have : ¬ nn % 2 = 0 := fun h => hnot ⟨h34, h⟩
                  omega
                clear hnot hq HH HT HT2 HSI HYE HNO
                generalize s[i] = c at *
                subst h34
                go_wp2_with fail
                go_roundw
                case rel => exact ⟨d + 1, by omega, by rw [HWV.out], by trivial, HQN⟩
                case measure => simp [intOf]; omega
              · clear hnot hq HH HT HT2 HSI HYE HNO
                generalize s[i] = c at *
                have B9 : ((c.toNat : Int) == 34) = false := (byte_ne (n := 34) (by decide)).2 h34
                clear h34
                go_wp2_with fail
                go_roundw
                case rel => exact ⟨d + 1, by omega, by rw [HWV.out], by trivial, HQN⟩
                case measure => simp [intOf]; omega
          | succ e =>
            obtain ⟨k, hkk⟩ : ∃ k, a + (e + 1) = k := ⟨_, rfl⟩
            have hks : k < s.size := by omega
            have HKE : Hid (k = a + 1 + e) := Lib.hid (by omega)
            have hYES := fun (h : s[a + 1 + e]'(by omega) = 92) => trB_yes (a := a) (d := e) (by omega) h
            have hNO := fun (h : s[a + 1 + e]'(by omega) ≠ 92) => trB_no (a := a) (d := e) (by omega) h
            have hse : s[a + 1 + e]'(by omega) = s[k] := by
              have : a + 1 + e = k := by omega
              simp only [this]
            rw [hse] at hYES hNO
            have HYES := Lib.hid hYES
            have HNOO := Lib.hid hNO
            rw [hkk]
            have hix2 := fun W => index_at s k hks k rfl W
            have g2 : decide ((a : Int) < (k : Int)) = true := decide_eq_true (by omega)
            have g4 : (k : Int) < (s.size : Int) := by omega
            have g5 : (0 : Int) ≤ (k : Int) := by omega
            clear hYES hNO hse
            by_cases h92 : s[k] = 92
            · have hTd := HT.out
              have HN3 : Hid (nn + 1 + trB s a e = T) := Lib.hid (by have := HNT.out; rw [HYES.out h92] at this; omega)
              have hn3 : nn + 1 ≤ T := by have := HN3.out; omega
              have HK4 : Hid ((k : Int) - 1 = ((a + e : Nat) : Int)) := Lib.hid (by omega)
              clear HYES HNOO HNT
              generalize s[k] = c2 at *
              subst h92
              go_wp2_with fail
              go_roundw
              case rel => exact ⟨nn + 1, e, by omega, HN3, hn3, by go_num, by rw [← HK4.out], by trivial⟩
              case measure => simp [intOf]; omega
            · have hnn : nn = T := by have := HNT.out; rw [HNOO.out h92] at this; omega
              clear HYES HNOO HNT hnT
              generalize s[k] = c2 at *
              have B2 : ((c2.toNat : Int) == 92) = false := (byte_ne (n := 92) (by decide)).2 h92
              clear h92
              go_upto_region 9 with fail
              clear B2 g2 g4 g5 hix2
              obtain rfl : nn = T := by omega
              have g9 : (0 : Int) ≤ (nn : Int) := by omega
              have hmes := HMES.out
              rcases HH.out with ⟨h34, heven, hq⟩ | ⟨hnot, hq⟩
              · have HE := Lib.hid (HYE.out d hq)
                have hm2 : (nn : Int) % 2 = 0 := by omega
                rw [HSI.out] at h34
                rw [hi] at HE
                generalize s[i] = c at *
                subst h34
                clear heven hq HH HT HT2 HSI HYE HNO
                go_wp2_with fail
                go_ret
                exact ⟨by rw [HE.out, Int.natCast_add]; rfl, by trivial⟩
              · have HQN := Lib.hid hq
                rw [HSI.out] at hnot
                by_cases h34 : s[i] = 34
                · have hm2 : (nn : Int) % 2 = 1 := by
                    have : ¬ nn % 2 = 0 := fun h => hnot ⟨h34, h⟩
                    omega
                  clear hnot hq HH HT HT2 HSI HYE HNO
                  generalize s[i] = c at *
                  subst h34
                  go_wp2_with fail
                  go_roundw
                  case rel => exact ⟨d + 1, by omega, by rw [HWV.out], by trivial, HQN⟩
                  case measure => simp [intOf]; omega
                · clear hnot hq HH HT HT2 HSI HYE HNO
                  generalize s[i] = c at *
                  have B9 : ((c.toNat : Int) == 34) = false := (byte_ne (n := 34) (by decide)).2 h34
                  clear h34
                  go_wp2_with fail
                  go_roundw
                  case rel => exact ⟨d + 1, by omega, by rw [HWV.out], by trivial, HQN⟩
                  case measure => simp [intOf]; omega
    · have g1 : decide ((i : Int) < (s.size : Int)) = false := decide_eq_false (by omega)
      have HE := Lib.hid (HNO.out (HQ.out.stop (by omega)))
      rw [hi]
      go_wp2_with fail
      go_ret
      exact ⟨by rw [HE.out]; rfl, by trivial⟩
end Go.Proofs.YtigbapkdpaahjaaDoor
