/-
  Lex: the walk of IsName, and of the laws' own first look. Condition: the variable of the signs holds what its initialiser lays.
-/
import Derived.Test.YtigbapkdpaahjaaDoorLLex
namespace Go.Proofs.YtigbapkdpaahjaaDoor
open Go.RowKit
def YesMade (b : Bool) (w : World) (e : Ending) (w' : World) : Prop := e = .returned (.bool b) ∧ Below w.heap.size w w'
/-- Is it some name's text? -/
def isNam (l : List UInt8) : Bool := l.head?.any isLow && decide ((nameOf l).length = l.length) && !isKey l
set_option maxRecDepth 100000 in
set_option maxHeartbeats 2000000 in
theorem lex_IsName (s : ByteArray) (w : World) : Calls Tryd.prog 14 #[.string s] w (YesMade (isNam s.data.toList) w) := by
  by_cases h0 : 0 < s.size
  · have e0 : s.toList.isEmpty = false := by
      rw [list_of, List.isEmpty_eq_false_iff]
      intro h9
      have h8 : s.size = 0 := congrArg List.length h9
      omega
    have e1 : (s.toList == []) = false := by rw [beq_eq_false_iff_ne]; intro h9; rw [h9] at e0; cases e0
    have hl : s.data.toList.length = s.size := rfl
    have hix := fun W => index_at s 0 h0 0 rfl W
    have HE : Hid (isNam s.data.toList = (isLow s[0] && decide ((nameOf s.data.toList).length = s.size) && !isKey s.data.toList)) := Lib.hid (by
      unfold isNam
      rw [head_of s h0]
      rfl)
    have HN := Lib.hid (fun W => lex_nameSize s W)
    have HK := Lib.hid (fun W => lex_IsWord s W)
    generalize isNam s.data.toList = b at *
    generalize isKey s.data.toList = kb at *
    generalize (nameOf s.data.toList).length = n at *
    generalize s[0] = c at *
    have HL := Lib.hid (fun W => lex_low c.toNat W)
    rw [low_at] at HL
    generalize isLow c = lb at *
    have E1 : IntKind.i32.wrap (c.toNat : Int) = (c.toNat : Int) := by rw [IntKind.wrap_i32]; have := c.toNat_lt; omega
    clear hl
    go_enter Tryd.func14, Tryd.ntmps14
    go_wp2_with fail
    refine (HL.out _).mono ?_
    rintro e w' ⟨rfl, rfl⟩
    cases lb with
    | false =>
      go_wp2_with fail
      go_ret
      exact ⟨by rw [HE.out]; rfl, Below.refl _ _⟩
    | true =>
      clear HL hix
      go_wp2_with fail
      refine (HN.out _).mono ?_
      rintro e w1 ⟨rfl, hb1⟩
      have HB := Lib.hid hb1
      clear hb1 HN
      by_cases hn : n = s.size
      · have B1 : ((n : Int) == (s.size : Int)) = true := by rw [beq_iff_eq]; omega
        have B2 : (n == s.size) = true := by rw [beq_iff_eq]; exact hn
        have HE2 : Hid (b = !kb) := Lib.hid (by rw [HE.out, decide_eq_true hn]; rfl)
        clear hn
        go_wp2_with fail
        refine (HK.out _).mono ?_
        rintro e w' ⟨rfl, rfl⟩
        go_wp2_with fail
        go_ret
        exact ⟨by rw [HE2.out]; rfl, HB.out⟩
      · have B1 : ((n : Int) == (s.size : Int)) = false := by rw [beq_eq_false_iff_ne]; omega
        have B2 : (n == s.size) = false := by rw [beq_eq_false_iff_ne]; exact hn
        have HE2 : Hid (b = false) := Lib.hid (by rw [HE.out, decide_eq_false hn]; rfl)
        clear hn
        go_wp2_with fail
        go_ret
        exact ⟨by rw [HE2.out]; rfl, HB.out⟩
  · have e0 : s.toList.isEmpty = true := by
      rw [list_of, List.isEmpty_iff]
      exact List.eq_nil_of_length_eq_zero (by show s.size = 0; omega)
    have e1 : (s.toList == []) = true := by rw [beq_iff_eq, ← List.isEmpty_iff]; exact e0
    have HE : Hid (isNam s.data.toList = false) := Lib.hid (by rw [empty_of s h0]; rfl)
    go_enter Tryd.func14, Tryd.ntmps14
    go_wp2_with fail
    go_ret
    exact ⟨by rw [HE.out]; rfl, Below.refl _ _⟩
def awToks : List (TK × Nat) := [(⟨6, [108, 101, 116], 0⟩, 0), (⟨1, [120], 0⟩, 4), (⟨7, [61], 0⟩, 5), (⟨3, [65], 0⟩, 6), (⟨4, [], 5⟩, 9), (⟨0, [], 0⟩, 10)]
theorem aw_lex1_v : LexV [108, 101, 116, 32, 120, 61, 35, 65, 32, 53] = .ok awToks := by kernel_rfl
theorem aw_lex2_v : LexV [120, 32, 49, 50, 97] = .bad 20 2 := by kernel_rfl
theorem aw_lex1 (w : World) (hy : Syms w) : Calls Tryd.prog 9 #[.string ⟨#[108, 101, 116, 32, 120, 61, 35, 65, 32, 53]⟩] w (LexMade (.ok awToks) w) := by
  rw [← aw_lex1_v]; exact lex_Lex ⟨#[108, 101, 116, 32, 120, 61, 35, 65, 32, 53]⟩ w hy
theorem aw_lex2 (w : World) (hy : Syms w) : Calls Tryd.prog 9 #[.string ⟨#[120, 32, 49, 50, 97]⟩] w (LexMade (.bad 20 2) w) := by
  rw [← aw_lex2_v]; exact lex_Lex ⟨#[120, 32, 49, 50, 97]⟩ w hy
theorem aw_word (l : List UInt8) (b : Bool) (h : isKey l = b) (w : World) : Calls Tryd.prog 13 #[.string ⟨l.toArray⟩] w fun e w' => e = .returned (.bool b) ∧ w = w' := by
  subst h; exact lex_IsWord ⟨l.toArray⟩ w
theorem aw_name (l : List UInt8) (b : Bool) (h : isNam l = b) (w : World) : Calls Tryd.prog 14 #[.string ⟨l.toArray⟩] w (YesMade b w) := by
  subst h; exact lex_IsName ⟨l.toArray⟩ w
set_option maxRecDepth 100000 in
set_option maxHeartbeats 2000000 in
theorem awake5_any (w : World) (hy : Syms w) : Calls Tryd.prog 8 #[] w (YesMade true w) := by
  have HY := Lib.hid hy
  clear hy
  go_enter Tryd.func8, Tryd.ntmps8
  go_wp2_with fail
  refine (aw_lex1 _ HY.out).mono ?_
  rintro e w1 ⟨v, rfl, hr, hb1⟩
  obtain ⟨A, c, rfl, hv⟩ := hr.view
  obtain ⟨g, rfl, _, hg, k0, _, _, _⟩ := hv 0 _ rfl
  obtain ⟨g', e1, _, _, _, _, k1, _⟩ := hv 1 _ rfl
  obtain rfl : g = g' := by simpa using e1
  obtain ⟨g', e3, _, _, _, _, k3, _⟩ := hv 3 _ rfl
  obtain rfl : g = g' := by simpa using e3
  obtain ⟨g', e4, _, _, _, _, _, k4⟩ := hv 4 _ rfl
  obtain rfl : g = g' := by simpa using e4
  obtain ⟨g', e5, _, _, _, k5, _, _⟩ := hv 5 _ rfl
  obtain rfl : g = g' := by simpa using e5
  have HB1 := Lib.hid hb1
  have HY1 := Lib.hid (HY.out.below hb1)
  have HK : Hid (w1.cell? ⟨g, 0, none⟩ = some (.int .i64 6) ∧ w1.cell? ⟨g, 6, none⟩ = some (.string ⟨#[120]⟩) ∧ w1.cell? ⟨g, 14, none⟩ = some (.string ⟨#[65]⟩) ∧ w1.cell? ⟨g, 19, none⟩ = some (.int .i64 5) ∧ w1.cell? ⟨g, 21, none⟩ = some (.int .i64 10) ∧ g < w1.heap.size) := Lib.hid ⟨k0, k1, k3, k4, k5, hg⟩
  clear hr hv e1 e3 e4 e5 k0 k1 k3 k4 k5 hb1 hg
  go_wp2_with fail
  refine (aw_lex2 _ HY1.out).mono ?_
  rintro e w2 ⟨rfl, hb2⟩
  obtain ⟨k0, k1, k3, k4, k5, hg⟩ := HK.out
  replace k0 := (hb2.cell (p := ⟨g, 0, none⟩) hg).trans k0
  replace k1 := (hb2.cell (p := ⟨g, 6, none⟩) hg).trans k1
  replace k3 := (hb2.cell (p := ⟨g, 14, none⟩) hg).trans k3
  replace k4 := (hb2.cell (p := ⟨g, 19, none⟩) hg).trans k4
  replace k5 := (hb2.cell (p := ⟨g, 21, none⟩) hg).trans k5
  have hg2 : g < w2.heap.size := Nat.lt_of_lt_of_le hg hb2.size
  have HB2 := Lib.hid (HB1.out.trans (hb2.mono HB1.out.size))
  have hlen : (awToks.length : Int) = 6 := rfl
  have hlen2 : awToks.length = 6 := rfl
  clear hg hb2 HK HB1 HY1
  go_wp2_with fail
  refine (aw_word [108, 101, 116] true (by decide) _).mono ?_
  rintro e w' ⟨rfl, rfl⟩
  go_wp2_with fail
  refine (aw_word [120] false (by decide) _).mono ?_
  rintro e w' ⟨rfl, rfl⟩
  go_wp2_with fail
  refine (aw_name [120] true (by decide) _).mono ?_
  rintro e w3 ⟨rfl, hb3⟩
  have HB3 := Lib.hid (HB2.out.trans (hb3.mono HB2.out.size))
  clear hb3 HB2 k0 k1 k3 k4 k5 hg2
  go_wp2_with fail
  refine (aw_name [108, 101, 116] false (by decide) _).mono ?_
  rintro e w4 ⟨rfl, hb4⟩
  have HB4 := Lib.hid (HB3.out.trans (hb4.mono HB3.out.size))
  clear hb4 HB3
  go_wp2_with fail
  go_ret
  exact ⟨rfl, HB4.out⟩
end Go.Proofs.YtigbapkdpaahjaaDoor
