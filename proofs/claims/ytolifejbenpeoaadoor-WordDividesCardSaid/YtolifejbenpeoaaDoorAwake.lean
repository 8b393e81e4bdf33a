/-
  The walk of the law's own first look: the calls at fixed arguments answer as the document says. Condition: strconv's table of powers of ten holds what its initialiser lays.
-/
import Derived.Test.YtolifejbenpeoaaDoorRefUnq
import Derived.Test.YtolifejbenpeoaaDoorRefDo
import Derived.Test.YtolifejbenpeoaaDoorRefRead
import Derived.Test.YtolifejbenpeoaaDoorText
namespace Go.Proofs.YtolifejbenpeoaaDoor
open Go.RowKit
def YesMade (b : Bool) (w : World) (e : Ending) (w' : World) : Prop := e = .returned (.bool b) ∧ Below w.heap.size w w'
def Pair (v x : Value) (w : World) (e : Ending) (w' : World) : Prop := e = .returned (.tuple #[v, x]) ∧ Below w.heap.size w w'
theorem aw_do1 (w : World) : Calls Tryd.prog 23 #[.int .i64 4, .int .i64 (-7), .int .i64 2] w (Pair (.int .i64 (-3)) (.int .i64 0) w) := word_Do 4 (-7) 2 w
theorem aw_do2 (w : World) : Calls Tryd.prog 23 #[.int .i64 4, .int .i64 1, .int .i64 0] w (Pair (.int .i64 0) (.int .i64 2) w) := word_Do 4 1 0 w
theorem aw_read (w : World) : Calls Tryd.prog 25 #[.string ⟨#[49, 55]⟩] w (Pair (.int .i64 17) (.int .i64 0) w) := by
  refine (word_Read ⟨#[49, 55]⟩ w (by decide)).mono ?_
  rintro e w' ⟨rfl, rfl⟩
  exact ⟨rfl, Below.refl _ _⟩
theorem aw_unq_v : UnqV [34, 97, 92, 110, 34] = ([97, 10], 0) := by decide +kernel
theorem aw_unq (w : World) : Calls Tryd.prog 29 #[.string ⟨#[34, 97, 92, 110, 34]⟩] w (Pair (.string ⟨#[97, 10]⟩) (.int .i64 0) w) := by
  refine (word_Unquote ⟨#[34, 97, 92, 110, 34]⟩ w (by decide)).mono ?_
  have h : UnqV (⟨#[34, 97, 92, 110, 34]⟩ : ByteArray).data.toList = ([97, 10], 0) := aw_unq_v
  rw [h]
  rintro e w' ⟨rfl, hb⟩
  exact ⟨rfl, hb⟩
theorem aw_wrap (w : World) : Calls Tryd.prog 11 #[.int .i64 4611686018427387904] w fun e w' => e = .returned (.int .i64 (-4611686018427387904)) ∧ w = w' := word_Wrap 4611686018427387904 w
theorem aw_num (w : World) : Calls Tryd.prog 15 #[.int .u64 (WOf (-5))] w fun e w' => e = .returned (.int .i64 (-5)) ∧ w = w' := by
  refine (word_Num _ w (wof_lo _) (wof_hi _)).mono ?_
  rintro e w' ⟨rfl, rfl⟩
  exact ⟨ret_int ((wnum_of (-5)).trans (by decide)), rfl⟩
theorem aw_isnum (w : World) : Calls Tryd.prog 17 #[.int .u64 (WOf 3)] w fun e w' => e = .returned (.bool true) ∧ w = w' := by
  refine (word_IsNum _ w (wof_lo _) (wof_hi _)).mono ?_
  rintro e w' ⟨rfl, rfl⟩
  exact ⟨ret_bool (wis_of 3), rfl⟩
theorem aw_isref (w : World) : Calls Tryd.prog 17 #[.int .u64 (WRef 3)] w fun e w' => e = .returned (.bool false) ∧ w = w' := by
  refine (word_IsNum _ w (wref_lo _) (wref_hi _)).mono ?_
  rintro e w' ⟨rfl, rfl⟩
  exact ⟨ret_bool (wis_ref 3), rfl⟩
theorem aw_addr (w : World) : Calls Tryd.prog 21 #[.int .u64 (WRef 9)] w fun e w' => e = .returned (.int .i64 9) ∧ w = w' := by
  refine (word_Addr _ w (wref_lo _) (wref_hi _)).mono ?_
  rintro e w' ⟨rfl, rfl⟩
  exact ⟨ret_int (waddr_ref 9 (by decide) (by decide)), rfl⟩
theorem aw_text (w : World) (ht : Tab w) : Calls Tryd.prog 27 #[.int .i64 (-20)] w (StrMade [45, 50, 48] w) := by
  have h : Lib.itoa (-20) = [45, 50, 48] := by
    unfold Lib.itoa
    rw [if_pos (by decide), Lib.decDigits_two (by decide) (by decide)]
    decide
  rw [← h]
  exact word_Text (-20) w (by decide) (by decide) ht
theorem aw_quote_v : qall [97, 10] = [34, 97, 92, 110, 34] := by decide
theorem aw_quote (w : World) : Calls Tryd.prog 31 #[.string ⟨#[97, 10]⟩] w (StrMade [34, 97, 92, 110, 34] w) := by
  rw [← aw_quote_v]
  exact word_Quote ⟨#[97, 10]⟩ w (by decide)
set_option maxRecDepth 100000 in
set_option maxHeartbeats 2000000 in
theorem awake_any (w : World) (ht : Tab w) : Calls Tryd.prog 10 #[] w (YesMade true w) := by
  have HT := Lib.hid ht
  clear ht
  go_enter Tryd.func10, Tryd.ntmps10
  go_wp2_with fail
  refine (aw_do1 _).mono ?_
  rintro e w1 ⟨rfl, hb⟩
  have H1 := Lib.hid hb
  clear hb
  go_wp2_with fail
  refine (aw_do2 _).mono ?_
  rintro e w2 ⟨rfl, hb⟩
  have H2 := Lib.hid (H1.out.trans (hb.mono H1.out.size))
  clear hb
  go_wp2_with fail
  refine (aw_read _).mono ?_
  rintro e w3 ⟨rfl, hb⟩
  have H3 := Lib.hid (H2.out.trans (hb.mono H2.out.size))
  clear hb
  go_wp2_with fail
  refine (aw_unq _).mono ?_
  rintro e w4 ⟨rfl, hb⟩
  have H4 := Lib.hid (H3.out.trans (hb.mono H3.out.size))
  have T4 := Lib.hid (HT.out.below H4.out)
  clear hb
  go_wp2_with fail
  refine (aw_wrap _).mono ?_
  rintro e w' ⟨rfl, rfl⟩
  go_wp2_with fail
  refine (word_Of _ _).mono ?_
  rintro e w' ⟨rfl, rfl⟩
  go_wp2_with fail
  refine (aw_num _).mono ?_
  rintro e w' ⟨rfl, rfl⟩
  go_wp2_with fail
  refine (word_Of _ _).mono ?_
  rintro e w' ⟨rfl, rfl⟩
  go_wp2_with fail
  refine (aw_isnum _).mono ?_
  rintro e w' ⟨rfl, rfl⟩
  go_wp2_with fail
  refine (word_Ref _ _).mono ?_
  rintro e w' ⟨rfl, rfl⟩
  go_wp2_with fail
  refine (aw_isref _).mono ?_
  rintro e w' ⟨rfl, rfl⟩
  go_wp2_with fail
  refine (word_Ref _ _).mono ?_
  rintro e w' ⟨rfl, rfl⟩
  go_wp2_with fail
  refine (aw_addr _).mono ?_
  rintro e w' ⟨rfl, rfl⟩
  go_wp2_with fail
  refine (aw_text _ T4.out).mono ?_
  rintro e w5 ⟨rfl, hb⟩
  have H5 := Lib.hid (H4.out.trans (hb.mono H4.out.size))
  clear hb
  go_wp2_with fail
  refine (aw_quote _).mono ?_
  rintro e w6 ⟨rfl, hb⟩
  have H6 := Lib.hid (H5.out.trans (hb.mono H5.out.size))
  clear hb
  go_wp2_with fail
  go_ret
  exact ⟨rfl, H6.out⟩
end Go.Proofs.YtolifejbenpeoaaDoor
