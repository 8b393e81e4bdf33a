/-
  The walks of the small calls that the heap leans on.
-/
import Derived.Test.YtdkbgdjkdalalaaGreatDoorRows
import Derived.WalkKit
import Derived.Lib.Hide
import Derived.MapKept
import Derived.Lib.Builder
import Derived.WalkSpells
import Derived.WalkLawsBesides
import Derived.Laws.Bits64b
import Derived.Laws.BitsAllLaws
import Derived.Lib.LaidTab
import Derived.Test.YtdkbgdjkdalalaaGreatDoorHMath
import Derived.Lib.TrailingZeros
import Derived.Outline
import Derived.Deep.Draws
import Derived.RegionTactic
import Derived.ChangeAlike
namespace Go.Proofs.YtdkbgdjkdalalaaGreatDoor
open Go.RowKit
theorem ret_int {k : IntKind} {a b : Int} (h : a = b) : Ending.returned (.int k a) = .returned (.int k b) := by rw [h]
theorem ret_bool {a b : Bool} (h : a = b) : Ending.returned (.bool a) = .returned (.bool b) := by rw [h]
set_option maxHeartbeats 400000 in
theorem isNaN_any (a : Int) (w : World) : Calls Tryz.prog 113 #[.int .i64 a] w fun e w' => e = .returned (.bool false) ∧ w = w' := by
  have h : (a != a) = false := by simp
  go_enter Tryz.func113, Tryz.ntmps113
  go_wp2
  go_ret
  exact ⟨rfl, rfl⟩
def cmpI (a b : Int) : Int := if a < b then -1 else if b < a then 1 else 0
set_option maxHeartbeats 400000 in
theorem cmp_any (a b : Int) (w : World) : Calls Tryz.prog 110 #[.int .i64 a, .int .i64 b] w fun e w' => e = .returned (.int .i64 (cmpI a b)) ∧ w = w' := by
  by_cases h1 : a < b
  · have H := Lib.hid (show cmpI a b = -1 by simp [cmpI, h1])
    go_enter Tryz.func110, Tryz.ntmps110
    go_wp2_with (go_at_call 113; refine (isNaN_any _ _).mono ?_; rintro e w' ⟨rfl, rfl⟩)
    go_ret
    exact ⟨ret_int H.out.symm, rfl⟩
  · by_cases h2 : b < a
    · have H := Lib.hid (show cmpI a b = 1 by simp [cmpI, h1, h2])
      go_enter Tryz.func110, Tryz.ntmps110
      go_wp2_with (go_at_call 113; refine (isNaN_any _ _).mono ?_; rintro e w' ⟨rfl, rfl⟩)
      go_ret
      exact ⟨ret_int H.out.symm, rfl⟩
    · have H := Lib.hid (show cmpI a b = 0 by simp [cmpI, h1, h2])
      go_enter Tryz.func110, Tryz.ntmps110
      go_wp2_with (go_at_call 113; refine (isNaN_any _ _).mono ?_; rintro e w' ⟨rfl, rfl⟩)
      go_ret
      exact ⟨ret_int H.out.symm, rfl⟩
set_option maxHeartbeats 400000 in
theorem word_Of0 (w : World) : Calls Tryz.prog 49 #[.int .i64 0] w fun e w' => e = .returned (.int .u64 1) ∧ w = w' := by
  go_enter Tryz.func49, Tryz.ntmps49
  go_wp2
  go_ret
  exact ⟨rfl, rfl⟩
/-- Words of memory, as values. -/
def u64s (l : List Nat) : List Value := l.map fun (x : Nat) => Value.int .u64 x
theorem u64s_len (l : List Nat) : (u64s l).length = l.length := by simp [u64s]
theorem u64s_at (l : List Nat) (i : Nat) (h : i < l.length) : (u64s l)[i]? = some (.int .u64 (l.getD i 0 : Nat)) := by
  simp [u64s, List.getElem?_map, List.getElem?_eq_getElem h]
theorem u64s_set (l : List Nat) (i x : Nat) : (u64s l).set i (.int .u64 x) = u64s (l.set i x) := by
  simp [u64s, List.map_set]
/-- The row of words l, of n words, lies at the head of block g, with space for k. -/
def Words (w : World) (t : TypeId) (g k : Nat) (l : List Nat) : Prop := w.ownsRow 0 t 1 (.slice (some ⟨g, 0, none⟩) l.length k) l.length (u64s l)
theorem Words.cell {w : World} {t : TypeId} {g k : Nat} {l : List Nat} (h : Words w t g k l) (i : Nat) (hi : i < l.length) : w.cell? ⟨g, i, none⟩ = some (.int .u64 (l.getD i 0 : Nat)) := by
  rw [World.ownsRow.cellAt h i (by omega), u64s_at l i hi]
theorem Words.frozen {w : World} {t : TypeId} {g k : Nat} {l : List Nat} (h : Words w t g k l) (i : Nat) : w.frozen? ⟨g, i, none⟩ = false := World.ownsRow.frozenAt h i
theorem Words.set {w : World} {t : TypeId} {g k : Nat} {l : List Nat} (h : Words w t g k l) (i x : Nat) : Words (w.setCell ⟨g, i, none⟩ (.int .u64 x)) t g k (l.set i x) ∧ w.grownBy (w.setCell ⟨g, i, none⟩ (.int .u64 x)) (some g) := by
  have h1 := World.ownsRow.stored h i (.int .u64 x)
  rw [u64s_set] at h1
  unfold Words
  rw [List.length_set]
  exact h1
theorem Words.drew {w : World} {t : TypeId} {g k : Nat} {l : List Nat} (h : Words w t g k l) : Words w.drew t g k l := h
theorem Words.keep {w w' : World} {t : TypeId} {g k : Nat} {l : List Nat} (h : Words w t g k l) (hb : w'.heap[g]? = w.heap[g]?) : Words w' t g k l := by
  refine ⟨h.1, ?_⟩
  rcases h.2 with ⟨he, _⟩ | ⟨g', cap, cur, he, hr⟩
  · simp at he
  · simp only [Value.slice.injEq, Option.some.injEq, Addr.mk.injEq, and_true, true_and] at he
    obtain ⟨rfl, rfl⟩ := he
    exact .inr ⟨g, k, cur, rfl, hr.1, hb.trans hr.2.1, hr.2.2⟩
theorem grown_drew {a w : World} {row : Option Nat} (h : a.grownBy w row) : a.grownBy w.drew row := ⟨h.os, h.tape, h.output, h.size, h.block⟩
theorem and_one_bit (x c : Nat) (hx : x < 18446744073709551616) : (bits BinOp.and IntKind.u64 ((x : Int) / 2 ^ c) 1 == 1) = x.testBit c := by
  have h1 : ((x : Int) / 2 ^ c) = ((x / 2 ^ c : Nat) : Int) := by simp
  have h2 : x / 2 ^ c ≤ x := Nat.div_le_self _ _
  have h3 := bits_and_u64_nat (x / 2 ^ c) 1 (by omega) (by omega)
  rw [h1, show (1 : Int) = ((1 : Nat) : Int) from rfl, h3, Nat.and_one_is_mod, Nat.testBit_eq_decide_div_mod_eq]
  rw [Bool.eq_iff_iff]
  simp
  omega
set_option maxHeartbeats 400000 in
theorem has_any (g k c : Nat) (l : List Nat) (w : World) (hw : Words w 32 g k l) (hc : c / 64 < l.length) (hn : l.length ≤ 65536) (hx : l.getD (c / 64) 0 < 18446744073709551616) :
    Calls Tryz.prog 94 #[.slice (some ⟨g, 0, none⟩) l.length k, .int .i64 c] w fun e w' => e = .returned (.bool ((l.getD (c / 64) 0).testBit (c % 64))) ∧ w = w' := by
  have hcell := hw.cell _ hc
  have H := Lib.hid (and_one_bit (l.getD (c / 64) 0) (c % 64) hx)
  generalize l.getD (c / 64) 0 = x at *
  clear hw
  go_enter Tryz.func94, Tryz.ntmps94
  go_wp2
  go_ret
  exact ⟨ret_bool H.out, rfl⟩
theorem bit_small (c : Nat) : 2 ^ (c % 64) < 2 ^ 64 := Nat.pow_lt_pow_right (by decide) (Nat.mod_lt _ (by decide))
theorem wrap_bit (c : Nat) : IntKind.u64.wrap (2 ^ (c % 64)) = ((2 ^ (c % 64) : Nat) : Int) := by
  have h := bit_small c
  rw [IntKind.wrap_u64]
  have e : ((2 : Int) ^ (c % 64)) = ((2 ^ (c % 64) : Nat) : Int) := by simp
  rw [e]
  generalize (2 : Nat) ^ (c % 64) = y at *
  omega
set_option maxHeartbeats 400000 in
theorem add_any (g k c : Nat) (l : List Nat) (w : World) (hw : Words w 32 g k l) (hc : c / 64 < l.length) (hn : l.length ≤ 65536) (hx : l.getD (c / 64) 0 < 18446744073709551616) :
    Calls Tryz.prog 88 #[.slice (some ⟨g, 0, none⟩) l.length k, .int .i64 c] w fun e w' => e = .returned (.tuple #[]) ∧ Words w' 32 g k (l.set (c / 64) (l.getD (c / 64) 0 ||| 2 ^ (c % 64))) ∧ w.grownBy w' (some g) := by
  have hcell := hw.cell _ hc
  have hfz := hw.frozen (c / 64)
  generalize l.getD (c / 64) 0 = x at *
  go_enter Tryz.func88, Tryz.ntmps88
  go_wp2
  go_region
  go_end0
  rw [wrap_bit c, u64_or_nat x _ hx (Nat.lt_of_lt_of_eq (bit_small c) rfl)]
  exact ⟨rfl, (hw.set _ _).1, (grown_drew (hw.set _ _).2)⟩
set_option maxHeartbeats 400000 in
theorem remove_any (g k c : Nat) (l : List Nat) (w : World) (hw : Words w 32 g k l) (hc : c / 64 < l.length) (hn : l.length ≤ 65536) (hx : l.getD (c / 64) 0 < 18446744073709551616) :
    Calls Tryz.prog 105 #[.slice (some ⟨g, 0, none⟩) l.length k, .int .i64 c] w fun e w' => e = .returned (.tuple #[]) ∧ Words w' 32 g k (l.set (c / 64) (l.getD (c / 64) 0 &&& (18446744073709551615 - 2 ^ (c % 64)))) ∧ w.grownBy w' (some g) := by
  have hcell := hw.cell _ hc
  have hfz := hw.frozen (c / 64)
  generalize l.getD (c / 64) 0 = x at *
  go_enter Tryz.func105, Tryz.ntmps105
  go_wp2
  go_region
  go_end0
  rw [wrap_bit c, u64_andNot_nat x _ hx (Nat.lt_of_lt_of_eq (bit_small c) rfl)]
  exact ⟨rfl, (hw.set _ _).1, (grown_drew (hw.set _ _).2)⟩
/-- The table of math/bits, as its initialiser lays it. -/
def Tab (w : World) : Prop := ∀ j, j < 64 → w.cell? ⟨0, j, none⟩ = some (.int .u8 (Lib.deBruijn64tab.getD j 0 : Nat))
theorem tabGlobal : Tryz.prog.globalNamed "math/bits.deBruijn64tab" = some 0 := by kernel_rfl
theorem Tab.of_laid {w : World} (h : Lib.TabIs Tryz.prog w "math/bits.deBruijn64tab" .u8 (Lib.deBruijn64tab.map fun (n : Nat) => (n : Int))) : Tab w := by
  intro j hj
  have hl : Lib.deBruijn64tab.length = 64 := rfl
  have h1 := Lib.TabIs.cell h tabGlobal j (by rw [List.length_map, hl]; exact hj)
  rw [h1]
  simp [List.getD_eq_getElem?_getD, List.getElem?_map, List.getElem?_eq_getElem (show j < Lib.deBruijn64tab.length by omega)]
theorem Tab.cell {w : World} (h : Tab w) (j : Nat) (hj : j < 64) : w.cell? ⟨0, j, none⟩ = some (.int .u8 (Lib.deBruijn64tab.getD j 0 : Nat)) := h j hj
theorem Tab.lt {w : World} (h : Tab w) : 0 < w.heap.size :=
  World.block_lt_of_cell? w (a := ⟨0, 0, none⟩) (h 0 (by decide))
theorem Tab.keep {w w' : World} (h : Tab w) (hb : w'.heap[(0 : Nat)]? = w.heap[(0 : Nat)]?) : Tab w' :=
  fun j hj => (World.cell?_of_block (a := ⟨0, j, none⟩) hb).trans (h j hj)
theorem Tab.below {w w' : World} {B : Nat} (h : Tab w) (hb : Below B w w') (hB : 0 < B) : Tab w' := h.keep (hb.block _ hB)
theorem Tab.drew {w : World} (h : Tab w) : Tab w.drew := h
theorem tz64_key (x a : Nat) (hx : x < 18446744073709551616) (hx0 : x ≠ 0) (hlow : x &&& (18446744073709551616 - x) = a) :
    IntKind.u64.wrap (bits BinOp.and IntKind.u64 (x : Int) (IntKind.u64.wrap (-(x : Int))) * 285870213051353865) / 288230376151711744 = ((a * 285870213051353865 % 18446744073709551616 / 288230376151711744 : Nat) : Int) := by
  have e1 : IntKind.u64.wrap (-(x : Int)) = ((18446744073709551616 - x : Nat) : Int) := by rw [IntKind.wrap_u64]; omega
  rw [e1, bits_and_u64_nat x _ hx (by omega), hlow, IntKind.wrap_u64]
  omega
set_option maxHeartbeats 1000000 in
theorem tz64_core (x k idx : Nat) (w : World) (hx0 : ((x : Int) == 0) = false)
    (key : IntKind.u64.wrap (bits BinOp.and IntKind.u64 (x : Int) (IntKind.u64.wrap (-(x : Int))) * 285870213051353865) / 288230376151711744 = (idx : Int))
    (hi : idx < 64) (hk : k < 64) (hcell : w.cell? ⟨0, idx, none⟩ = some (.int .u8 k)) :
    Calls Tryz.prog 107 #[.int .u64 x] w fun e w' => e = .returned (.int .i64 k) ∧ w = w' := by
  go_enter Tryz.func107, Tryz.ntmps107
  go_wp2_with (simp only [key])
  go_ret
  exact ⟨rfl, rfl⟩
theorem tz64_any (x : Nat) (hx0 : x ≠ 0) (hx : x < 18446744073709551616) (w : World) (hT : Tab w) :
    Calls Tryz.prog 107 #[.int .u64 x] w fun e w' => e = .returned (.int .i64 (Lib.ctz 64 x : Nat)) ∧ w = w' := by
  obtain ⟨hlow, hk⟩ := Lib.lowest_bit 64 x hx0 hx
  obtain ⟨hi, htab⟩ := Lib.deBruijn64_at _ hk
  have hcell := hT.cell _ hi
  rw [htab] at hcell
  exact tz64_core x _ _ w (by simp; omega) (tz64_key x _ hx hx0 hlow) hi hk hcell
set_option maxHeartbeats 400000 in
theorem end_any (a n : Int) (w : World) (h0 : 0 ≤ a) (h1 : a ≤ 65536) (h2 : 0 ≤ n) (h3 : n ≤ 65536) : Calls Tryz.prog 111 #[.agg #[.int .i64 a, .int .i64 n]] w fun e w' => e = .returned (.int .i64 (a + n)) ∧ Below w.heap.size w w' := by
  go_enter Tryz.func111, Tryz.ntmps111
  go_wp2
  go_ret
  exact ⟨rfl, (Below.refl _ _).alloc (Nat.le_refl _) _⟩
set_option maxHeartbeats 400000 in
theorem give1_any (a n t : Int) (w : World) : Calls Tryz.prog 109 #[.agg #[.int .i64 a, .int .i64 n], .int .i64 t] w fun e w' => e = .returned (.int .i64 (cmpI a t)) ∧ Below w.heap.size w w' := by
  go_enter Tryz.func109, Tryz.ntmps109
  go_wp2_with (go_at_call 110; refine (cmp_any _ _ _).mono ?_; rintro e w' ⟨rfl, rfl⟩)
  go_ret
  exact ⟨rfl, (Below.refl _ _).alloc (Nat.le_refl _) _⟩
set_option maxHeartbeats 400000 in
theorem take1_any (a n m : Int) (q : Nat) (w : World) (hq : w.cell? ⟨q, 0, none⟩ = some (.int .i64 m)) : Calls Tryz.prog 96 #[.agg #[.int .i64 a, .int .i64 n], .pointer (some ⟨q, 0, none⟩)] w fun e w' => e = .returned (.bool (decide (m ≤ n))) ∧ Below w.heap.size w w' := by
  have hlt := World.block_lt_of_cell? w (a := ⟨q, 0, none⟩) hq
  go_enter Tryz.func96, Tryz.ntmps96
  go_wp2
  go_ret
  exact ⟨rfl, (Below.refl _ _).alloc (Nat.le_refl _) _⟩
theorem wrap_drop (x c : Nat) : IntKind.u64.wrap ((x : Int) / 2 ^ c * 2 ^ c) = ((dropLow x c : Nat) : Int) := by
  rw [IntKind.wrap_u64]
  unfold dropLow
  have e : ((2 : Int) ^ c) = ((2 ^ c : Nat) : Int) := by simp
  rw [e, ← Int.natCast_ediv, ← Int.natCast_mul]
  omega
/-- The next marked cell is returned, and the world stands. -/
def NextMade (l : List Nat) (c : Nat) (w : World) (e : Ending) (w' : World) : Prop := (∃ r : Nat, IsNext l c r ∧ e = .returned (.int .i64 r)) ∧ w = w'
def FromAt (l : List Nat) (c : Nat) (i x : Nat) : Prop := x < 18446744073709551616 ∧ (∀ j, j < 64 → x.testBit j = (decide (c ≤ 64 * i + j) && (l.getD i 0).testBit j)) ∧ ∀ d, c ≤ d → d < 64 * i → Marked l d = false
theorem fromAt_start (l : List Nat) (c : Nat) : FromAt l c (c / 64) (dropLow (l.getD (c / 64) 0) (c % 64)) := by
  refine ⟨dropLow_small _ _, fun j hj => ?_, fun d h1 h2 => by omega⟩
  rw [dropLow_bit _ _ _ hj]
  congr 1
  rw [decide_eq_decide]
  omega
theorem fromAt_next (l : List Nat) (c i x : Nat) (hs : Small l) (hc : c < 64 * (i + 1)) (h : FromAt l c i x) (hx : x = 0) : FromAt l c (i + 1) (l.getD (i + 1) 0) := by
  refine ⟨hs _, fun j hj => ?_, below_step l c i x hx h.2.1 h.2.2⟩
  simp; omega
set_option maxHeartbeats 1000000 in
theorem from_any (g k c : Nat) (l : List Nat) (w : World) (hT : Tab w) (hw : Words w 32 g k l) (hs : Small l) (hn : l.length ≤ 65536) (hc : c ≤ 9223372036854775807) :
    Calls Tryz.prog 104 #[.slice (some ⟨g, 0, none⟩) l.length k, .int .i64 c] w (NextMade l c w) := by
  by_cases h : c / 64 < l.length
  · have hcell := hw.cell _ h
    have H0 := Lib.hid (fromAt_start l c)
    have HD := Lib.hid (wrap_drop (l.getD (c / 64) 0) (c % 64))
    generalize l.getD (c / 64) 0 = x0 at *
    go_enter Tryz.func104, Tryz.ntmps104
    go_wp2
    go_loop [5, 6] (fun vi vx => ∃ i x : Nat, c < 64 * (i + 1) ∧ i < l.length ∧ Hid (FromAt l c i x) ∧ vi = .int .i64 i ∧ vx = .int .u64 x) (fun vi _ => l.length - (intOf vi).toNat)
    case atStart => exact ⟨c / 64, _, by omega, h, H0, by go_num, by rw [HD.out]⟩
    case round =>
      obtain ⟨i, x, hci, hil, HF, rfl, rfl⟩ := hrel
      clear hcell H0 HD
      by_cases hx : x = 0
      · by_cases hi : i + 1 = l.length
        · have B0 : ((x : Int) == 0) = true := by simp [hx]
          have B1 : ((i : Int) + 1 == (l.length : Int)) = true := by simp; omega
          have HN := Lib.hid (isNext_none l c (i + 1) (by omega) (below_step l c i x hx HF.out.2.1 HF.out.2.2))
          clear hx hi
          go_wp2
          go_ret
          exact ⟨⟨0, HN.out, rfl⟩, rfl⟩
        · have B0 : ((x : Int) == 0) = true := by simp [hx]
          have B1 : ((i : Int) + 1 == (l.length : Int)) = false := by simp; omega
          have hcell := hw.cell (i + 1) (by omega)
          have HN := Lib.hid (fromAt_next l c i x hs hci HF.out hx)
          generalize l.getD (i + 1) 0 = y at *
          have hi' : i + 1 < l.length := by omega
          clear hx hi
          go_wp2
          go_round
          case rel => exact ⟨i + 1, y, by omega, hi', HN, by go_num, rfl⟩
          case measure => simp [intOf]; omega
      · have B0 : ((x : Int) == 0) = false := by simp [hx]
        have HN := Lib.hid (isNext_found l c i x hil hx HF.out.1 HF.out.2.1 HF.out.2.2)
        have hk := (ctz_bits x hx HF.out.1).2.1
        have HC := tz64_any x hx HF.out.1 w hT
        have HC' := Lib.hid HC
        clear HC
        generalize Lib.ctz 64 x = q at *
        clear hx
        go_wp2_with fail
        refine (HC'.out).mono ?_
        rintro e w' ⟨rfl, rfl⟩
        go_wp2
        go_ret
        exact ⟨⟨_, HN.out, by go_num⟩, rfl⟩
  · have HN := Lib.hid (isNext_none l c (c / 64) (by omega) (fun d h1 h2 => by omega))
    have h' : l.length ≤ c / 64 := by omega
    go_enter Tryz.func104, Tryz.ntmps104
    go_wp2
    go_ret
    exact ⟨⟨0, HN.out, rfl⟩, rfl⟩
end Go.Proofs.YtdkbgdjkdalalaaGreatDoor
