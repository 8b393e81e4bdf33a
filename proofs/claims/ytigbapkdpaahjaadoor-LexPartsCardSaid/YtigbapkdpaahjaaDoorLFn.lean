/-
  Lex: the walks of the functions that ask of a rune what it is.
-/
import Derived.Test.YtigbapkdpaahjaaDoorLMath
import Derived.Laws.RangeAny
namespace Go.Proofs.YtigbapkdpaahjaaDoor
open Go.RowKit
def lowN (x : Nat) : Bool := (decide (97 ≤ x) && decide (x ≤ 122)) || decide (x = 95)
def upN (x : Nat) : Bool := decide (65 ≤ x) && decide (x ≤ 90)
def digN (x : Nat) : Bool := decide (48 ≤ x) && decide (x ≤ 57)
def bodyN (x : Nat) : Bool := lowN x || upN x || digN x
theorem low_at (c : UInt8) : lowN c.toNat = isLow c := rfl
theorem up_at (c : UInt8) : upN c.toNat = isUp c := rfl
theorem dig_at' (c : UInt8) : digN c.toNat = isDig c := rfl
theorem body_at (c : UInt8) : bodyN c.toNat = isBody c := rfl
theorem body_high (x : Nat) (h : 128 ≤ x) : lowN x = false ∧ upN x = false ∧ digN x = false ∧ bodyN x = false := by
  have h1 : lowN x = false := by unfold lowN; simp; omega
  have h2 : upN x = false := by unfold upN; simp; omega
  have h3 : digN x = false := by unfold digN; simp; omega
  exact ⟨h1, h2, h3, by unfold bodyN; rw [h1, h2, h3]; rfl⟩
theorem lex_low (x : Nat) (w : World) : Calls Tryd.prog 19 #[.int .i32 x] w fun e w' => e = .returned (.bool (lowN x)) ∧ w = w' := by
  by_cases h1 : 97 ≤ x
  · have g1 : decide ((97 : Int) ≤ (x : Int)) = true := decide_eq_true (by omega)
    by_cases h2 : x ≤ 122
    · have g2 : decide ((x : Int) ≤ 122) = true := decide_eq_true (by omega)
      have HE := Lib.hid (show lowN x = true by unfold lowN; simp; omega)
      go_enter Tryd.func19, Tryd.ntmps19
      go_wp2_with fail
      go_ret
      exact ⟨by rw [HE.out]; rfl, rfl⟩
    · have g2 : decide ((x : Int) ≤ 122) = false := decide_eq_false (by omega)
      have g3 : ((x : Int) == 95) = false := by rw [beq_eq_false_iff_ne]; omega
      have HE := Lib.hid (show lowN x = false by unfold lowN; simp; omega)
      go_enter Tryd.func19, Tryd.ntmps19
      go_wp2_with fail
      go_ret
      exact ⟨by rw [HE.out]; rfl, rfl⟩
  · have g1 : decide ((97 : Int) ≤ (x : Int)) = false := decide_eq_false (by omega)
    by_cases h2 : x = 95
    · have g3 : ((x : Int) == 95) = true := by rw [beq_iff_eq]; omega
      have HE := Lib.hid (show lowN x = true by unfold lowN; simp; omega)
      clear h2
      go_enter Tryd.func19, Tryd.ntmps19
      go_wp2_with fail
      go_ret
      exact ⟨by rw [HE.out]; rfl, rfl⟩
    · have g3 : ((x : Int) == 95) = false := by rw [beq_eq_false_iff_ne]; omega
      have HE := Lib.hid (show lowN x = false by unfold lowN; simp; omega)
      go_enter Tryd.func19, Tryd.ntmps19
      go_wp2_with fail
      go_ret
      exact ⟨by rw [HE.out]; rfl, rfl⟩
theorem lex_up (x : Nat) (w : World) : Calls Tryd.prog 22 #[.int .i32 x] w fun e w' => e = .returned (.bool (upN x)) ∧ w = w' := by
  by_cases h1 : 65 ≤ x
  · have g1 : decide ((65 : Int) ≤ (x : Int)) = true := decide_eq_true (by omega)
    have g2 : decide ((x : Int) ≤ 90) = decide (x ≤ 90) := by rw [decide_eq_decide]; omega
    have HE := Lib.hid (show upN x = decide (x ≤ 90) by unfold upN; simp [h1])
    go_enter Tryd.func22, Tryd.ntmps22
    go_wp2_with fail
    go_ret
    exact ⟨by rw [HE.out]; rfl, rfl⟩
  · have g1 : decide ((65 : Int) ≤ (x : Int)) = false := decide_eq_false (by omega)
    have HE := Lib.hid (show upN x = false by unfold upN; simp; omega)
    go_enter Tryd.func22, Tryd.ntmps22
    go_wp2_with fail
    go_ret
    exact ⟨by rw [HE.out]; rfl, rfl⟩
theorem lex_dig (x : Nat) (w : World) : Calls Tryd.prog 25 #[.int .i32 x] w fun e w' => e = .returned (.bool (digN x)) ∧ w = w' := by
  by_cases h1 : 48 ≤ x
  · have g1 : decide ((48 : Int) ≤ (x : Int)) = true := decide_eq_true (by omega)
    have g2 : decide ((x : Int) ≤ 57) = decide (x ≤ 57) := by rw [decide_eq_decide]; omega
    have HE := Lib.hid (show digN x = decide (x ≤ 57) by unfold digN; simp [h1])
    go_enter Tryd.func25, Tryd.ntmps25
    go_wp2_with fail
    go_ret
    exact ⟨by rw [HE.out]; rfl, rfl⟩
  · have g1 : decide ((48 : Int) ≤ (x : Int)) = false := decide_eq_false (by omega)
    have HE := Lib.hid (show digN x = false by unfold digN; simp; omega)
    go_enter Tryd.func25, Tryd.ntmps25
    go_wp2_with fail
    go_ret
    exact ⟨by rw [HE.out]; rfl, rfl⟩
theorem lex_body (x : Nat) (w : World) : Calls Tryd.prog 37 #[.int .i32 x] w fun e w' => e = .returned (.bool (bodyN x)) ∧ w = w' := by
  have HL := Lib.hid (fun W => lex_low x W)
  have HU := Lib.hid (fun W => lex_up x W)
  have HD := Lib.hid (fun W => lex_dig x W)
  have HE := Lib.hid (show bodyN x = (lowN x || upN x || digN x) from rfl)
  generalize lowN x = a at *
  generalize upN x = b at *
  generalize digN x = c at *
  go_enter Tryd.func37, Tryd.ntmps37
  go_wp2_with fail
  refine (HL.out _).mono ?_
  rintro e w1 ⟨rfl, rfl⟩
  cases a with
  | true =>
    go_wp2_with fail
    go_ret
    exact ⟨by rw [HE.out]; rfl, rfl⟩
  | false =>
    go_wp2_with fail
    refine (HU.out _).mono ?_
    rintro e w1 ⟨rfl, rfl⟩
    cases b with
    | true =>
      go_wp2_with fail
      go_ret
      exact ⟨by rw [HE.out]; rfl, rfl⟩
    | false =>
      go_wp2_with fail
      refine (HD.out _).mono ?_
      rintro e w1 ⟨rfl, rfl⟩
      go_wp2_with fail
      go_ret
      exact ⟨by rw [HE.out]; rfl, rfl⟩
end Go.Proofs.YtigbapkdpaahjaaDoor
