/-
  The walks of the laws WordRing and WordDivides: whatever the input, they return true and leave what was there as it was. Condition: strconv's table of powers of ten holds what its initialiser lays.
-/
import Derived.Test.YtolifejbenpeoaaDoorAwake
namespace Go.Proofs.YtolifejbenpeoaaDoor
open Go.RowKit
/-- One operation's result, for the law's own call. -/
def OneMade (n : Int) (w : World) (e : Ending) (w' : World) : Prop := e = .returned (.int .i64 n) ∧ Below w.heap.size w w'
set_option maxHeartbeats 400000 in
theorem law_do (op a b : Int) (w : World) : Calls Tryd.prog 33 #[.int .i64 op, .int .i64 a, .int .i64 b] w (OneMade (DoV op a b).1 w) := by
  go_enter Tryd.func33, Tryd.ntmps33
  go_wp2_with fail
  refine (word_Do _ _ _ _).mono ?_
  rintro e w2 ⟨rfl, hb⟩
  have H2 := Lib.hid hb
  clear hb
  go_wp2_with fail
  go_ret
  exact ⟨rfl, H2.out⟩
def Ad (a b : Int) : Int := W63 (W63 a + W63 b)
def Mu (a b : Int) : Int := W63 (W63 a * W63 b)
def Ng (a : Int) : Int := W63 (- W63 a)
def Sb (a b : Int) : Int := W63 (W63 a - W63 b)
theorem do_add (a b : Int) (w : World) : Calls Tryd.prog 33 #[.int .i64 1, .int .i64 a, .int .i64 b] w (OneMade (Ad a b) w) := law_do 1 a b w
theorem do_sub (a b : Int) (w : World) : Calls Tryd.prog 33 #[.int .i64 2, .int .i64 a, .int .i64 b] w (OneMade (Sb a b) w) := law_do 2 a b w
theorem do_mul (a b : Int) (w : World) : Calls Tryd.prog 33 #[.int .i64 3, .int .i64 a, .int .i64 b] w (OneMade (Mu a b) w) := law_do 3 a b w
theorem do_neg (a b : Int) (w : World) : Calls Tryd.prog 33 #[.int .i64 6, .int .i64 a, .int .i64 b] w (OneMade (Ng a) w) := law_do 6 a b w
theorem ad_eq (a b : Int) : Ad a b = W63 (a + b) := by unfold Ad; rw [w63_add, w63_add_r]
theorem mu_eq (a b : Int) : Mu a b = W63 (a * b) := by unfold Mu; rw [w63_mul, w63_mul_r]
theorem ng_eq (a : Int) : Ng a = W63 (- a) := w63_neg a
theorem sb_eq (a b : Int) : Sb a b = W63 (a - b) := w63_sub a b
theorem ad_comm (a b : Int) : Ad a b = Ad b a := by rw [ad_eq, ad_eq, Int.add_comm]
theorem mu_comm (a b : Int) : Mu a b = Mu b a := by rw [mu_eq, mu_eq, Int.mul_comm]
theorem ad_assoc (a b c : Int) : Ad a (Ad b c) = Ad (Ad a b) c := by
  rw [ad_eq, ad_eq, ad_eq, ad_eq, w63_add_r, w63_add, Int.add_assoc]
theorem mu_assoc (a b c : Int) : Mu a (Mu b c) = Mu (Mu a b) c := by
  rw [mu_eq, mu_eq, mu_eq, mu_eq, w63_mul_r, w63_mul, Int.mul_assoc]
theorem ad_zero (a : Int) : Ad (W63 a) 0 = W63 a := by rw [ad_eq, w63_add, Int.add_zero]
theorem mu_one (a : Int) : Mu (W63 a) 1 = W63 a := by rw [mu_eq, w63_mul, Int.mul_one]
theorem ad_ng (a : Int) : Ad a (Ng a) = 0 := by
  rw [ng_eq, ad_eq, w63_add_r, Int.add_right_neg]
  decide
theorem sb_ad (a b : Int) : Sb a b = Ad a (Ng b) := by
  rw [sb_eq, ng_eq, ad_eq, w63_add_r, Int.sub_eq_add_neg]
theorem mu_ad (a b c : Int) : Mu a (Ad b c) = Ad (Mu a b) (Mu a c) := by
  rw [mu_eq, ad_eq, ad_eq, mu_eq, mu_eq, w63_mul_r, w63_add, w63_add_r, Int.mul_add]
set_option maxRecDepth 100000 in
set_option maxHeartbeats 4000000 in
theorem law_Ring (a b c : Int) (w : World) (ht : Tab w) : Calls Tryd.prog 8 #[.int .i64 a, .int .i64 b, .int .i64 c] w (YesMade true w) := by
  have HT := Lib.hid ht
  clear ht
  go_enter Tryd.func8, Tryd.ntmps8
  go_wp2_with fail
  refine (awake_any _ HT.out).mono ?_
  rintro e w1 ⟨rfl, hb⟩
  have H1 := Lib.hid hb
  clear hb
  go_wp2_with fail
  refine (word_Wrap _ _).mono ?_
  rintro e w' ⟨rfl, rfl⟩
  go_wp2_with fail
  refine (word_Wrap _ _).mono ?_
  rintro e w' ⟨rfl, rfl⟩
  go_wp2_with fail
  refine (word_Wrap _ _).mono ?_
  rintro e w' ⟨rfl, rfl⟩
  have HB0 := Lib.hid (H1.out.alloc H1.out.size (.cells #[.int .i64 1, .int .i64 3] 3 (0, 0)))
  have HC := Lib.hid (box_at w1 (.cells #[.int .i64 1, .int .i64 3] 3 (0, 0)) w1.heap.size rfl)
  obtain ⟨W1, hW1⟩ : ∃ W1, W1 = w1.alloc (.cells #[.int .i64 1, .int .i64 3] 3 (0, 0)) := ⟨_, rfl⟩
  have HW1 := Lib.hid hW1
  have HZ : Hid (w1.heap.size < W1.heap.size) := Lib.hid (by rw [hW1]; simp)
  rw [← hW1] at HC HB0
  clear hW1
  go_wp2_with fail
  go_loopw [19] (fun i wr => ∃ k : Nat, k ≤ 2 ∧ i = .int .i64 k ∧ Below W1.heap.size W1 wr) (fun i _ => 2 - (intOf i).toNat)
  case atStart => exact ⟨0, by decide, rfl, by rw [HW1.out]; exact Below.refl _ _⟩
  case round =>
    obtain ⟨k, hk, rfl, hrel⟩ := hrel
    have G0 := Lib.hid hrel
    have D := Lib.hid ((hrel.block w1.heap.size HZ.out).trans HC.out)
    have HF := Lib.hid (HB0.out.trans (hrel.mono (Nat.le_trans H1.out.size (Nat.le_of_lt HZ.out))))
    clear hrel
    rcases (by omega : k = 0 ∨ k = 1 ∨ k = 2) with rfl | rfl | rfl
    · have c0 : wr.cell? ⟨w1.heap.size, 0, none⟩ = some (.int .i64 1) := Lib.cell_of_heap D.out 0
      have f1 : (Ad (W63 a) (W63 b) != Ad (W63 b) (W63 a)) = false := by rw [ad_comm, bne_self_eq_false]
      have f2 : (Ad (W63 a) (Ad (W63 b) (W63 c)) != Ad (Ad (W63 a) (W63 b)) (W63 c)) = false := by rw [ad_assoc, bne_self_eq_false]
      go_wp2_with fail
      refine (do_add _ _ _).mono ?_
      rintro e v1 ⟨rfl, hb⟩
      have G1 := Lib.hid (G0.out.trans (hb.mono G0.out.size))
      clear hb
      go_wp2_with fail
      refine (do_add _ _ _).mono ?_
      rintro e v2 ⟨rfl, hb⟩
      have G2 := Lib.hid (G1.out.trans (hb.mono G1.out.size))
      clear hb
      go_wp2_with fail
      refine (do_add _ _ _).mono ?_
      rintro e v3 ⟨rfl, hb⟩
      have G3 := Lib.hid (G2.out.trans (hb.mono G2.out.size))
      clear hb
      go_wp2_with fail
      refine (do_add _ _ _).mono ?_
      rintro e v4 ⟨rfl, hb⟩
      have G4 := Lib.hid (G3.out.trans (hb.mono G3.out.size))
      clear hb
      go_wp2_with fail
      refine (do_add _ _ _).mono ?_
      rintro e v5 ⟨rfl, hb⟩
      have G5 := Lib.hid (G4.out.trans (hb.mono G4.out.size))
      clear hb
      go_wp2_with fail
      refine (do_add _ _ _).mono ?_
      rintro e v6 ⟨rfl, hb⟩
      have G6 := Lib.hid (G5.out.trans (hb.mono G5.out.size))
      clear hb
      go_wp2_with fail
      go_roundw
      case rel => exact ⟨1, by decide, by go_num, G6.out⟩
      case measure => simp [intOf]
    · have c0 : wr.cell? ⟨w1.heap.size, 1, none⟩ = some (.int .i64 3) := Lib.cell_of_heap D.out 1
      have f1 : (Mu (W63 a) (W63 b) != Mu (W63 b) (W63 a)) = false := by rw [mu_comm, bne_self_eq_false]
      have f2 : (Mu (W63 a) (Mu (W63 b) (W63 c)) != Mu (Mu (W63 a) (W63 b)) (W63 c)) = false := by rw [mu_assoc, bne_self_eq_false]
      go_wp2_with fail
      refine (do_mul _ _ _).mono ?_
      rintro e v1 ⟨rfl, hb⟩
      have G1 := Lib.hid (G0.out.trans (hb.mono G0.out.size))
      clear hb
      go_wp2_with fail
      refine (do_mul _ _ _).mono ?_
      rintro e v2 ⟨rfl, hb⟩
      have G2 := Lib.hid (G1.out.trans (hb.mono G1.out.size))
      clear hb
      go_wp2_with fail
      refine (do_mul _ _ _).mono ?_
      rintro e v3 ⟨rfl, hb⟩
      have G3 := Lib.hid (G2.out.trans (hb.mono G2.out.size))
      clear hb
      go_wp2_with fail
      refine (do_mul _ _ _).mono ?_
      rintro e v4 ⟨rfl, hb⟩
      have G4 := Lib.hid (G3.out.trans (hb.mono G3.out.size))
      clear hb
      go_wp2_with fail
      refine (do_mul _ _ _).mono ?_
      rintro e v5 ⟨rfl, hb⟩
      have G5 := Lib.hid (G4.out.trans (hb.mono G4.out.size))
      clear hb
      go_wp2_with fail
      refine (do_mul _ _ _).mono ?_
      rintro e v6 ⟨rfl, hb⟩
      have G6 := Lib.hid (G5.out.trans (hb.mono G5.out.size))
      clear hb
      go_wp2_with fail
      go_roundw
      case rel => exact ⟨2, by decide, by go_num, G6.out⟩
      case measure => simp [intOf]
    · have f3 : (Ad (W63 a) 0 == W63 a) = true := by rw [ad_zero, beq_self_eq_true]
      have f4 : (Mu (W63 a) 1 == W63 a) = true := by rw [mu_one, beq_self_eq_true]
      have f5 : (Ad (W63 a) (Ng (W63 a)) == 0) = true := by rw [ad_ng, beq_self_eq_true]
      have f6 : (Sb (W63 a) (W63 b) == Ad (W63 a) (Ng (W63 b))) = true := by rw [sb_ad, beq_self_eq_true]
      have f7 : (Mu (W63 a) (Ad (W63 b) (W63 c)) == Ad (Mu (W63 a) (W63 b)) (Mu (W63 a) (W63 c))) = true := by rw [mu_ad, beq_self_eq_true]
      go_wp2_with fail
      refine (do_add _ _ _).mono ?_
      rintro e v1 ⟨rfl, hb⟩
      have G1 := Lib.hid (HF.out.trans (hb.mono HF.out.size))
      clear hb
      go_wp2_with fail
      refine (do_mul _ _ _).mono ?_
      rintro e v2 ⟨rfl, hb⟩
      have G2 := Lib.hid (G1.out.trans (hb.mono G1.out.size))
      clear hb
      go_wp2_with fail
      refine (do_neg _ _ _).mono ?_
      rintro e v3 ⟨rfl, hb⟩
      have G3 := Lib.hid (G2.out.trans (hb.mono G2.out.size))
      clear hb
      go_wp2_with fail
      refine (do_add _ _ _).mono ?_
      rintro e v4 ⟨rfl, hb⟩
      have G4 := Lib.hid (G3.out.trans (hb.mono G3.out.size))
      clear hb
      go_wp2_with fail
      refine (do_sub _ _ _).mono ?_
      rintro e v5 ⟨rfl, hb⟩
      have G5 := Lib.hid (G4.out.trans (hb.mono G4.out.size))
      clear hb
      go_wp2_with fail
      refine (do_neg _ _ _).mono ?_
      rintro e v6 ⟨rfl, hb⟩
      have G6 := Lib.hid (G5.out.trans (hb.mono G5.out.size))
      clear hb
      go_wp2_with fail
      refine (do_add _ _ _).mono ?_
      rintro e v7 ⟨rfl, hb⟩
      have G7 := Lib.hid (G6.out.trans (hb.mono G6.out.size))
      clear hb
      go_wp2_with fail
      refine (do_add _ _ _).mono ?_
      rintro e v8 ⟨rfl, hb⟩
      have G8 := Lib.hid (G7.out.trans (hb.mono G7.out.size))
      clear hb
      go_wp2_with fail
      refine (do_mul _ _ _).mono ?_
      rintro e v9 ⟨rfl, hb⟩
      have G9 := Lib.hid (G8.out.trans (hb.mono G8.out.size))
      clear hb
      go_wp2_with fail
      refine (do_mul _ _ _).mono ?_
      rintro e v10 ⟨rfl, hb⟩
      have G10 := Lib.hid (G9.out.trans (hb.mono G9.out.size))
      clear hb
      go_wp2_with fail
      refine (do_mul _ _ _).mono ?_
      rintro e v11 ⟨rfl, hb⟩
      have G11 := Lib.hid (G10.out.trans (hb.mono G10.out.size))
      clear hb
      go_wp2_with fail
      refine (do_add _ _ _).mono ?_
      rintro e v12 ⟨rfl, hb⟩
      have G12 := Lib.hid (G11.out.trans (hb.mono G11.out.size))
      clear hb
      go_wp2_with fail
      go_ret
      exact ⟨rfl, G12.out⟩
theorem dv_zero (op a : Int) (h : op = 4 ∨ op = 5) (w : World) : Calls Tryd.prog 23 #[.int .i64 op, .int .i64 a, .int .i64 0] w (Pair (.int .i64 0) (.int .i64 2) w) := by
  have hd : DoV op a 0 = (0, 2) := by
    have hz : W63 0 = 0 := by decide
    rcases h with rfl | rfl
    · simp [DoV, hz]
    · simp [DoV, hz]
  have := word_Do op a 0 w
  unfold DoMade at this
  rw [hd] at this
  exact this
theorem dv_quo (a b : Int) (h : ¬ W63 b = 0) (w : World) : Calls Tryd.prog 23 #[.int .i64 4, .int .i64 (W63 a), .int .i64 (W63 b)] w (Pair (.int .i64 (W63 ((W63 a).tdiv (W63 b)))) (.int .i64 0) w) := by
  have hd : DoV 4 (W63 a) (W63 b) = (W63 ((W63 a).tdiv (W63 b)), 0) := by
    simp [DoV, w63_idem, h]
  have := word_Do 4 (W63 a) (W63 b) w
  unfold DoMade at this
  rw [hd] at this
  exact this
theorem dv_rem (a b : Int) (h : ¬ W63 b = 0) (w : World) : Calls Tryd.prog 23 #[.int .i64 5, .int .i64 (W63 a), .int .i64 (W63 b)] w (Pair (.int .i64 ((W63 a).tmod (W63 b))) (.int .i64 0) w) := by
  have hd : DoV 5 (W63 a) (W63 b) = ((W63 a).tmod (W63 b), 0) := by
    have := tmod_in (W63 a) (W63 b) (w63_lo a) (w63_hi a)
    simp [DoV, w63_idem, h, this]
  have := word_Do 5 (W63 a) (W63 b) w
  unfold DoMade at this
  rw [hd] at this
  exact this
theorem dv_back (a b : Int) : Ad (Mu (W63 ((W63 a).tdiv (W63 b))) (W63 b)) ((W63 a).tmod (W63 b)) = W63 a := by
  rw [mu_eq, ad_eq, w63_mul, w63_add]
  have h := tmod_of (W63 a) (W63 b)
  have h2 : (W63 a).tdiv (W63 b) * W63 b + (W63 a).tmod (W63 b) = W63 a := by omega
  rw [h2, w63_idem]
theorem tmod_lt (A B : Int) (h : ¬ B = 0) : (A.tmod B).natAbs < B.natAbs := by
  rw [tmod_abs]
  exact Nat.mod_lt _ (by omega)
theorem tmod_sign (A B : Int) : (A.tmod B < 0 ∧ A < 0) ∨ A.tmod B = 0 ∨ (0 < A.tmod B ∧ 0 < A) := by
  by_cases hA : 0 ≤ A
  · have h := Int.tmod_nonneg B hA
    rcases (by omega : A.tmod B = 0 ∨ 0 < A.tmod B) with h0 | h0
    · exact Or.inr (Or.inl h0)
    · refine Or.inr (Or.inr ⟨h0, ?_⟩)
      rcases (by omega : A = 0 ∨ 0 < A) with rfl | h1
      · rw [Int.zero_tmod] at h0
        omega
      · exact h1
  · have h6 := Int.neg_tmod (-A) B
    rw [Int.neg_neg] at h6
    have h7 := Int.tmod_nonneg B (a := -A) (by omega)
    rcases (by omega : A.tmod B = 0 ∨ A.tmod B < 0) with h0 | h0
    · exact Or.inr (Or.inl h0)
    · exact Or.inl ⟨h0, by omega⟩
set_option maxRecDepth 100000 in
set_option maxHeartbeats 4000000 in
theorem law_Divides_zero (a b : Int) (w : World) (ht : Tab w) (hz : W63 b = 0) : Calls Tryd.prog 9 #[.int .i64 a, .int .i64 b] w (YesMade true w) := by
  have HT := Lib.hid ht
  clear ht
  go_enter Tryd.func9, Tryd.ntmps9
  go_wp2_with fail
  refine (awake_any _ HT.out).mono ?_
  rintro e w1 ⟨rfl, hb⟩
  have H1 := Lib.hid hb
  clear hb
  go_wp2_with fail
  refine (word_Wrap _ _).mono ?_
  rintro e w' ⟨rfl, rfl⟩
  go_wp2_with fail
  refine (word_Wrap _ _).mono ?_
  rintro e w' ⟨rfl, rfl⟩
  go_wp2_with fail
  refine (dv_zero 4 _ (Or.inl rfl) _).mono ?_
  rintro e w2 ⟨rfl, hb⟩
  have H2 := Lib.hid (H1.out.trans (hb.mono H1.out.size))
  clear hb
  go_wp2_with fail
  refine (dv_zero 5 _ (Or.inr rfl) _).mono ?_
  rintro e w3 ⟨rfl, hb⟩
  have H3 := Lib.hid (H2.out.trans (hb.mono H2.out.size))
  clear hb
  go_wp2_with fail
  go_ret
  exact ⟨rfl, H3.out⟩
set_option maxRecDepth 100000 in
set_option maxHeartbeats 4000000 in
theorem law_Divides_else (a b : Int) (w : World) (ht : Tab w) (hz : ¬ W63 b = 0) : Calls Tryd.prog 9 #[.int .i64 a, .int .i64 b] w (YesMade true w) := by
  have HT := Lib.hid ht
  have hzb : (W63 b == 0) = false := by simpa using hz
  have fb : (Ad (Mu (W63 ((W63 a).tdiv (W63 b))) (W63 b)) ((W63 a).tmod (W63 b)) == W63 a) = true := by rw [dv_back, beq_self_eq_true]
  have hlt := tmod_lt (W63 a) (W63 b) hz
  have hsg := tmod_sign (W63 a) (W63 b)
  have HQ := Lib.hid (dv_quo a b hz)
  have HR := Lib.hid (dv_rem a b hz)
  have n0 := w63_lo b
  have n1 := w63_hi b
  have n2 := w63_lo a
  have n3 := w63_hi a
  have HW := Lib.hid (word_Wrap a)
  have HV := Lib.hid (word_Wrap b)
  clear ht
  generalize hq : W63 ((W63 a).tdiv (W63 b)) = q at *
  generalize hr : (W63 a).tmod (W63 b) = r at *
  generalize hA : W63 a = A at *
  generalize hB : W63 b = B at *
  clear hq hr hA hB
  have key : (B < 0 ∧ B < r ∧ r < -B) ∨ (0 < B ∧ r < B ∧ -B < r) := by omega
  clear hlt
  rcases key with ⟨k1, k2, k3⟩ | ⟨k1, k2, k3⟩
  all_goals
    rcases hsg with ⟨s1, s2⟩ | s1 | ⟨s1, s2⟩
    all_goals
      (try subst s1)
      go_enter Tryd.func9, Tryd.ntmps9
      go_wp2_with fail
      refine (awake_any _ HT.out).mono ?_
      rintro e w1 ⟨rfl, hb⟩
      have H1 := Lib.hid hb
      clear hb
      go_wp2_with fail
      refine (HW.out _).mono ?_
      rintro e w' ⟨rfl, rfl⟩
      go_wp2_with fail
      refine (HV.out _).mono ?_
      rintro e w' ⟨rfl, rfl⟩
      go_wp2_with fail
      refine (HQ.out _).mono ?_
      rintro e w2 ⟨rfl, hb⟩
      have H2 := Lib.hid (H1.out.trans (hb.mono H1.out.size))
      clear hb
      go_wp2_with fail
      refine (HR.out _).mono ?_
      rintro e w3 ⟨rfl, hb⟩
      have H3 := Lib.hid (H2.out.trans (hb.mono H2.out.size))
      clear hb
      go_wp2_with fail
      refine (do_mul _ _ _).mono ?_
      rintro e w4 ⟨rfl, hb⟩
      have H4 := Lib.hid (H3.out.trans (hb.mono H3.out.size))
      clear hb
      go_wp2_with fail
      refine (do_add _ _ _).mono ?_
      rintro e w5 ⟨rfl, hb⟩
      have H5 := Lib.hid (H4.out.trans (hb.mono H4.out.size))
      clear hb
      go_wp2_with fail
      all_goals
        go_ret
        exact ⟨rfl, H5.out⟩
theorem law_Divides (a b : Int) (w : World) (ht : Tab w) : Calls Tryd.prog 9 #[.int .i64 a, .int .i64 b] w (YesMade true w) := by
  by_cases hz : W63 b = 0
  · exact law_Divides_zero a b w ht hz
  · exact law_Divides_else a b w ht hz
end Go.Proofs.YtolifejbenpeoaaDoor
