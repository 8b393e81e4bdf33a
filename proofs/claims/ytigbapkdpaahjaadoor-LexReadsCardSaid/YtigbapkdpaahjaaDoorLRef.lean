/-
  Lex: the walks of the document's own letter, body, run, Words, IsWord and IsName.
-/
import Derived.Test.YtigbapkdpaahjaaDoorLAwk
namespace Go.Proofs.YtigbapkdpaahjaaDoor
open Go.RowKit
theorem ref_letter (c a b : Nat) (w : World) : Calls Tryd.prog 29 #[.int .u8 c, .int .u8 a, .int .u8 b] w fun e w' => e = .returned (.bool (decide (a ≤ c) && decide (c ≤ b))) ∧ w = w' := by
  by_cases h1 : a ≤ c
  · have g1 : decide ((a : Int) ≤ (c : Int)) = true := decide_eq_true (by omega)
    have g2 : decide ((c : Int) ≤ (b : Int)) = decide (c ≤ b) := by rw [decide_eq_decide]; omega
    have HE := Lib.hid (show (decide (a ≤ c) && decide (c ≤ b)) = decide (c ≤ b) by simp [h1])
    go_enter Tryd.func29, Tryd.ntmps29
    go_wp2_with fail
    go_ret
    exact ⟨by rw [HE.out]; rfl, rfl⟩
  · have g1 : decide ((a : Int) ≤ (c : Int)) = false := decide_eq_false (by omega)
    have HE := Lib.hid (show (decide (a ≤ c) && decide (c ≤ b)) = false by simp [h1])
    go_enter Tryd.func29, Tryd.ntmps29
    go_wp2_with fail
    go_ret
    exact ⟨by rw [HE.out]; rfl, rfl⟩
theorem ref_letter_c (c : UInt8) (a b : Int) (a' b' : Nat) (ha : a = a') (hb : b = b') (w : World) : Calls Tryd.prog 29 #[.int .u8 c.toNat, .int .u8 a, .int .u8 b] w fun e w' => e = .returned (.bool (decide (a' ≤ c.toNat) && decide (c.toNat ≤ b'))) ∧ w = w' := by
  subst ha hb; exact ref_letter c.toNat a' b' w
theorem body_order (c : UInt8) : isBody c = ((decide (97 ≤ c.toNat) && decide (c.toNat ≤ 122)) || (decide (65 ≤ c.toNat) && decide (c.toNat ≤ 90)) || (decide (48 ≤ c.toNat) && decide (c.toNat ≤ 57)) || decide (c.toNat = 95)) := by
  unfold isBody isLow isUp isDig
  cases (decide (97 ≤ c.toNat) && decide (c.toNat ≤ 122)) <;> cases (decide (65 ≤ c.toNat) && decide (c.toNat ≤ 90)) <;> cases (decide (48 ≤ c.toNat) && decide (c.toNat ≤ 57)) <;> cases decide (c.toNat = 95) <;> rfl
theorem under_eq (c : UInt8) : ((c.toNat : Int) == 95) = decide (c.toNat = 95) := by
  by_cases h : c.toNat = 95
  · rw [decide_eq_true h, beq_iff_eq]; omega
  · rw [decide_eq_false h, beq_eq_false_iff_ne]; omega
set_option maxRecDepth 100000 in
theorem ref_body (c : UInt8) (w : World) : Calls Tryd.prog 43 #[.int .u8 c.toNat] w fun e w' => e = .returned (.bool (isBody c)) ∧ w = w' := by
  have H1 := Lib.hid (fun W => ref_letter_c c 97 122 97 122 rfl rfl W)
  have H2 := Lib.hid (fun W => ref_letter_c c 65 90 65 90 rfl rfl W)
  have H3 := Lib.hid (fun W => ref_letter_c c 48 57 48 57 rfl rfl W)
  have HE := Lib.hid (body_order c)
  have hu := under_eq c
  generalize isBody c = r at *
  generalize (decide (97 ≤ c.toNat) && decide (c.toNat ≤ 122)) = b1 at *
  generalize (decide (65 ≤ c.toNat) && decide (c.toNat ≤ 90)) = b2 at *
  generalize (decide (48 ≤ c.toNat) && decide (c.toNat ≤ 57)) = b3 at *
  generalize decide (c.toNat = 95) = b4 at *
  go_enter Tryd.func43, Tryd.ntmps43
  go_wp2_with fail
  refine (H1.out _).mono ?_
  rintro e w' ⟨rfl, rfl⟩
  cases b1 with
  | true =>
    go_wp2_with fail
    go_ret
    exact ⟨by rw [HE.out]; rfl, rfl⟩
  | false =>
    go_wp2_with fail
    refine (H2.out _).mono ?_
    rintro e w' ⟨rfl, rfl⟩
    cases b2 with
    | true =>
      go_wp2_with fail
      go_ret
      exact ⟨by rw [HE.out]; rfl, rfl⟩
    | false =>
      go_wp2_with fail
      refine (H3.out _).mono ?_
      rintro e w' ⟨rfl, rfl⟩
      cases b3 with
      | true =>
        go_wp2_with fail
        go_ret
        exact ⟨by rw [HE.out]; rfl, rfl⟩
      | false =>
        cases b4 with
        | true =>
          go_wp2_with fail
          go_ret
          exact ⟨by rw [HE.out]; rfl, rfl⟩
        | false =>
          go_wp2_with fail
          go_ret
          exact ⟨by rw [HE.out]; rfl, rfl⟩
set_option maxRecDepth 100000 in
theorem ref_run (s : ByteArray) (a : Nat) (w : World) (hs : s.size ≤ 1000000) (ha : a ≤ s.size) : Calls Tryd.prog 30 #[.string s, .int .i64 (a : Int)] w fun e w' => e = .returned (.int .i64 ((a + (nameOf (s.data.toList.drop a)).length : Nat) : Int)) ∧ w = w' := by
  have HB := Lib.hid (fun c W => ref_body c W)
  have hl : s.data.toList.length = s.size := rfl
  go_enter Tryd.func30, Tryd.ntmps30
  go_wp2_with fail
  go_loopw [1] (fun vi wr => ∃ p : Nat, a ≤ p ∧ p ≤ s.size ∧ vi = .int .i64 p ∧ wr = w ∧ Hid (((s.data.toList.drop a).take (p - a)).all isBody = true)) (fun vi _ => s.size - (intOf vi).toNat)
  case atStart => exact ⟨a, Nat.le_refl _, ha, rfl, rfl, Lib.hid (by rw [Nat.sub_self]; rfl)⟩
  case round =>
    obtain ⟨p, hap, hpl, rfl, rfl, HA⟩ := hrel
    by_cases hp : p < s.size
    · have g1 : decide ((p : Int) < (s.size : Int)) = true := decide_eq_true (by omega)
      have g2 : (p : Int) < (s.size : Int) := by omega
      have g3 : (0 : Int) ≤ (p : Int) := by omega
      have hix := fun W => index_at s p hp p rfl W
      have hel : (s.data.toList.drop a)[p - a]'(by rw [List.length_drop]; omega) = s[p]'hp := by
        rw [List.getElem_drop]
        have : a + (p - a) = p := by omega
        simp only [this]; rfl
      have HNX : Hid (isBody (s[p]'hp) = true → ((s.data.toList.drop a).take (p + 1 - a)).all isBody = true) := Lib.hid (fun h => by
        rw [show p + 1 - a = (p - a) + 1 by omega, List.take_succ_eq_append_getElem (by rw [List.length_drop]; omega), List.all_append, HA.out, hel]
        simp [h])
      have HAT : Hid (isBody (s[p]'hp) = false → a + (nameOf (s.data.toList.drop a)).length = p) := Lib.hid (fun h => by
        rw [nameOf_at (p := p - a) HA.out (by rw [List.length_drop]; omega) (by rw [hel]; exact h)]
        omega)
      clear hel
      generalize s[p] = c at *
      clear hl
      go_wp2_with fail
      refine (HB.out c _).mono ?_
      rintro e w' ⟨rfl, rfl⟩
      cases hb : isBody c with
      | true =>
        have HN := Lib.hid (HNX.out hb)
        clear hb
        go_wp2_with fail
        go_roundw
        case rel => exact ⟨p + 1, by omega, by omega, by go_num, by trivial, HN⟩
        case measure => simp [intOf]; omega
      | false =>
        have HE := Lib.hid (HAT.out hb)
        clear hb
        go_wp2_with fail
        go_ret
        exact ⟨by rw [HE.out]; rfl, by trivial⟩
    · have g1 : decide ((p : Int) < (s.size : Int)) = false := decide_eq_false (by omega)
      obtain rfl : p = s.size := by omega
      have HE : Hid (a + (nameOf (s.data.toList.drop a)).length = s.size) := Lib.hid (by
        have := HA.out
        rw [List.take_of_length_le (by rw [List.length_drop]; omega)] at this
        rw [nameOf_whole this, List.length_drop]
        omega)
      clear hl
      go_wp2_with fail
      go_ret
      exact ⟨by rw [HE.out]; rfl, by trivial⟩
def keyCells : Array Value := (keyL.map fun l => Value.string ⟨l.toArray⟩).toArray
theorem key_cell (i : Nat) (h : i < 25) : keyCells[i]? = some (.string ⟨(keyL.getD i []).toArray⟩) := by
  unfold keyCells
  rw [List.getElem?_toArray, List.getElem?_map, List.getD_eq_getElem?_getD, List.getElem?_eq_getElem (show i < keyL.length from h)]
  rfl
def WordsIs (w : World) (e : Ending) (w' : World) : Prop := ∃ b, e = .returned (.slice (some ⟨b, 0, none⟩) 25 25) ∧ Below w.heap.size w w' ∧ b < w'.heap.size ∧ w.heap.size ≤ b ∧ ∀ i, i < 25 → w'.cell? ⟨b, i, none⟩ = some (.string ⟨(keyL.getD i []).toArray⟩)
set_option maxRecDepth 100000 in
theorem ref_Words (w : World) : Calls Tryd.prog 44 #[] w (WordsIs w) := by
  have HW : Hid (WordsIs w (.returned (.slice (some ⟨w.heap.size, 0, none⟩) 25 25)) (w.alloc (.cells keyCells 9 (0, 0)))) := Lib.hid ⟨w.heap.size, rfl, (Below.refl _ w).alloc (Nat.le_refl _) _, by simp, Nat.le_refl _, fun i hi => by
    rw [Lib.cell_of_heap (box_at w _ _ rfl)]; exact key_cell i hi⟩
  go_enter Tryd.func44, Tryd.ntmps44
  go_wp2_with fail
  go_ret
  exact HW.out
theorem key_found (l : List UInt8) (i : Nat) (h : i < 25) (he : keyL.getD i [] = l) : isKey l = true := by
  unfold isKey
  rw [List.contains_iff_mem, ← he, List.getD_eq_getElem?_getD, List.getElem?_eq_getElem (show i < keyL.length from h)]
  exact List.getElem_mem _
theorem key_none (l : List UInt8) (h : ∀ i, i < 25 → keyL.getD i [] ≠ l) : isKey l = false := by
  cases hk : isKey l with
  | false => rfl
  | true =>
    unfold isKey at hk
    rw [List.contains_iff_mem] at hk
    obtain ⟨i, hi, he⟩ := List.getElem_of_mem hk
    have hi : i < 25 := hi
    refine absurd ?_ (h i hi)
    rw [List.getD_eq_getElem?_getD, List.getElem?_eq_getElem (show i < keyL.length from hi)]
    exact he
set_option maxRecDepth 100000 in
theorem ref_IsWord (s : ByteArray) (w : World) : Calls Tryd.prog 31 #[.string s] w (YesMade (isKey s.data.toList) w) := by
  have HKF := Lib.hid (fun (i : Nat) (h : i < 25) => key_found s.data.toList i h)
  have HKN := Lib.hid (key_none s.data.toList)
  generalize isKey s.data.toList = kb at *
  go_enter Tryd.func31, Tryd.ntmps31
  go_wp2_with fail
  refine (ref_Words _).mono ?_
  rintro e w1 ⟨b, rfl, hb1, hbl, _, hk⟩
  have HB := Lib.hid hb1
  have HK := Lib.hid hk
  clear hb1 hk
  go_wp2_with fail
  go_loopw [4] (fun vi wr => ∃ i : Nat, i ≤ 25 ∧ vi = .int .i64 i ∧ wr = w1 ∧ Hid (∀ j, j < i → keyL.getD j [] ≠ s.data.toList)) (fun vi _ => 25 - (intOf vi).toNat)
  case atStart => exact ⟨0, by omega, by go_num, rfl, Lib.hid (fun j hj => absurd hj (by omega))⟩
  case round =>
    obtain ⟨i, hi, rfl, rfl, HN⟩ := hrel
    by_cases hi2 : i < 25
    · have g1 : decide ((i : Int) < 25) = true := decide_eq_true (by omega)
      have g2 : (i : Int) < 25 := by omega
      have g3 : (0 : Int) ≤ (i : Int) := by omega
      have k1 := HK.out i hi2
      have HF := Lib.hid (fun h => HKF.out i hi2 h)
      have HN2 : Hid (keyL.getD i [] ≠ s.data.toList → ∀ j, j < i + 1 → keyL.getD j [] ≠ s.data.toList) := Lib.hid (fun hf j hj => by
        rcases Nat.lt_or_eq_of_le (Nat.le_of_lt_succ hj) with h1 | rfl
        · exact HN.out j h1
        · exact hf)
      generalize keyL.getD i [] = l at *
      by_cases hl : l = s.data.toList
      · have HE := Lib.hid (HF.out hl)
        have hs : s = ⟨l.toArray⟩ := by rw [hl]
        subst hs
        clear hl HF HN2
        go_wp2_with fail
        go_ret
        exact ⟨by rw [HE.out]; rfl, HB.out⟩
      · have HX := Lib.hid (HN2.out hl)
        have e1 : (l == s.toList) = false := by rw [beq_eq_false_iff_ne, list_of]; exact hl
        have e2 : ((⟨l.toArray⟩ : ByteArray).toList == s.toList) = false := by rw [beq_eq_false_iff_ne, list_of, list_of]; exact hl
        clear hl HF HN2
        go_wp2_with fail
        go_roundw
        case rel => exact ⟨i + 1, by omega, by go_num, by trivial, HX⟩
        case measure => simp [intOf]; omega
    · have g1 : decide ((i : Int) < 25) = false := decide_eq_false (by omega)
      obtain rfl : i = 25 := by omega
      have HE := Lib.hid (HKN.out HN.out)
      go_wp2_with fail
      go_ret
      exact ⟨by rw [HE.out]; rfl, HB.out⟩
/-- Is it a name's text, whatever its length? -/
def isNamR (l : List UInt8) : Bool := l.head?.any isLow && decide ((nameOf l).length = l.length) && !isKey l
theorem low_order (c : UInt8) : isLow c = ((decide (97 ≤ c.toNat) && decide (c.toNat ≤ 122)) || decide (c.toNat = 95)) := rfl
end Go.Proofs.YtigbapkdpaahjaaDoor
