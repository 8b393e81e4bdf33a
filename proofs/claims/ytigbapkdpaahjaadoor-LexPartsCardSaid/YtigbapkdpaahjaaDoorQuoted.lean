/-
  The walks of the quoted form of one byte, of both sides, and of the byte that a quoted form may begin with.
-/
import Derived.Test.YtigbapkdpaahjaaDoorRead
import Derived.Test.YtigbapkdpaahjaaDoorBuild
import Derived.Deep.QuietTactic
import Derived.BigQuiet
import Derived.RegionTactic
import Derived.ChangeAlike
namespace Go.Proofs.YtigbapkdpaahjaaDoor
open Go.RowKit
def hexd (k : Nat) : UInt8 := if k < 10 then UInt8.ofNat (48 + k) else UInt8.ofNat (87 + k)
/-- A byte's quoted form. -/
def qf (n : Nat) : List UInt8 :=
  if n = 34 then [92, 34] else if n = 92 then [92, 92] else if n = 10 then [92, 110] else if 32 ≤ n ∧ n ≤ 126 then [UInt8.ofNat n] else [92, 120, hexd (n / 16), hexd (n % 16)]
theorem strMade {l m : List UInt8} {w w' : World} (h : l = m) (hb : Below w.heap.size w w') : StrMade l w (.returned (.string ⟨m.toArray⟩)) w' := by
  subst h
  exact ⟨rfl, hb⟩
theorem strMade_two' {l a b : List UInt8} {w w' : World} (h : l = a ++ b) (hb : Below w.heap.size w w') : StrMade l w (.returned (.string (⟨a.toArray⟩ ++ ⟨b.toArray⟩))) w' :=
  ⟨by rw [ByteArray.mk_append_mk, h], hb⟩
theorem strMade_three {l a b c : List UInt8} {w w' : World} (h : l = a ++ b ++ c) (hb : Below w.heap.size w w') : StrMade l w (.returned (.string (⟨a.toArray⟩ ++ ⟨b.toArray⟩ ++ ⟨c.toArray⟩))) w' :=
  ⟨by rw [ByteArray.mk_append_mk, ByteArray.mk_append_mk, h], hb⟩
set_option maxHeartbeats 400000 in
set_option maxRecDepth 100000 in
theorem word_quoted_1 (w : World) : Calls Tryd.prog 48 #[.int .u8 34] w (StrMade (qf 34) w) := by
  go_enter Tryd.func48, Tryd.ntmps48
  go_wp2
  go_ret
  exact strMade rfl (Below.refl _ _)
set_option maxHeartbeats 400000 in
set_option maxRecDepth 100000 in
theorem word_quoted_2 (w : World) : Calls Tryd.prog 48 #[.int .u8 92] w (StrMade (qf 92) w) := by
  go_enter Tryd.func48, Tryd.ntmps48
  go_wp2
  go_ret
  exact strMade rfl (Below.refl _ _)
set_option maxHeartbeats 400000 in
set_option maxRecDepth 100000 in
theorem word_quoted_3 (w : World) : Calls Tryd.prog 48 #[.int .u8 10] w (StrMade (qf 10) w) := by
  go_enter Tryd.func48, Tryd.ntmps48
  go_wp2
  go_ret
  exact strMade rfl (Below.refl _ _)
theorem encode_small (n : Nat) (h : n < 128) : Utf8.encode (n : Int) = ⟨[UInt8.ofNat n].toArray⟩ := by
  unfold Utf8.encode
  have hv : Utf8.valid (n : Int) = true := by
    unfold Utf8.valid
    simp
    omega
  simp [hv, h]
theorem hexd_small (k : Nat) (h : k < 16) : (hexd k).toNat < 128 := by
  have := (by decide : ∀ k : Fin 16, (hexd k.val).toNat < 128) ⟨k, h⟩
  exact this
theorem conv_rune (n : Nat) (h : n < 128) (w : World) : (convert 21 9 (.int .i32 (n : Int))).run Tryd.prog w = .ok (.string ⟨[UInt8.ofNat n].toArray⟩) w := by
  rw [run_convert_int_string w 21 9 .i32 n (by rw [Tryd.underlying21]; rfl) Tryd.underlying9, encode_small n h]
theorem conv_hexd (k : Nat) (h : k < 16) (w : World) : (convert 21 9 (.int .i32 ((hexd k).toNat : Int))).run Tryd.prog w = .ok (.string ⟨[hexd k].toArray⟩) w := by
  rw [conv_rune _ (hexd_small k h)]
  simp
theorem wrap_hexd (k : Nat) (h : k < 16) : IntKind.i32.wrap ((hexd k).toNat : Int) = ((hexd k).toNat : Int) := by
  have := hexd_small k h
  rw [IntKind.wrap_i32]
  omega
theorem hex_at (k : Nat) (h : k < 16) (x : Int) (hx : x = k) (w : World) : (Instr.index 9 (.string { data := #[48, 49, 50, 51, 52, 53, 54, 55, 56, 57, 97, 98, 99, 100, 101, 102] }) (.int .u8 x)).run Tryd.prog w = .ok (.int .u8 (hexd k).toNat) w := by
  subst hx
  rw [run_index_string _ _ _ _ _ Tryd.underlying9]
  have hs : ({ data := #[48, 49, 50, 51, 52, 53, 54, 55, 56, 57, 97, 98, 99, 100, 101, 102] } : ByteArray).size = 16 := rfl
  rw [dif_pos ⟨by omega, by rw [hs]; omega⟩]
  have key := (by decide : ∀ k : Fin 16, (({ data := #[48, 49, 50, 51, 52, 53, 54, 55, 56, 57, 97, 98, 99, 100, 101, 102] } : ByteArray)[k.val]'(by have := k.isLt; rw [show ({ data := #[48, 49, 50, 51, 52, 53, 54, 55, 56, 57, 97, 98, 99, 100, 101, 102] } : ByteArray).size = 16 from rfl]; exact this)).toNat = (hexd k.val).toNat) ⟨k, h⟩
  have k2 := congrArg (fun (x : Nat) => (x : Int)) key
  simpa using k2
set_option maxHeartbeats 400000 in
set_option maxRecDepth 100000 in
theorem word_quoted_4 (n : Nat) (w : World) (h0 : 32 ≤ n) (h1 : n ≤ 126) (e1 : ((n : Int) == 34) = false) (e2 : ((n : Int) == 92) = false) (e3 : ((n : Int) == 10) = false) : Calls Tryd.prog 48 #[.int .u8 n] w (StrMade (qf n) w) := by
  have cv := conv_rune n (by omega)
  have hq := Lib.hid (show qf n = [UInt8.ofNat n] by
    simp at e1 e2 e3
    unfold qf
    rw [if_neg (by omega), if_neg (by omega), if_neg (by omega), if_pos ⟨h0, h1⟩])
  go_enter Tryd.func48, Tryd.ntmps48
  go_wp2
  go_ret
  exact strMade hq.out (Below.refl _ _)
set_option maxHeartbeats 400000 in
set_option maxRecDepth 100000 in
theorem word_quoted_5 (n : Nat) (w : World) (h0 : n ≤ 255) (h : n < 32 ∨ 126 < n) (e1 : ((n : Int) == 34) = false) (e2 : ((n : Int) == 92) = false) (e3 : ((n : Int) == 10) = false) : Calls Tryd.prog 48 #[.int .u8 n] w (StrMade (qf n) w) := by
  have hq := Lib.hid (show qf n = [92, 120, hexd (n / 16), hexd (n % 16)] by
    simp at e1 e2 e3
    unfold qf
    rw [if_neg (by omega), if_neg (by omega), if_neg (by omega), if_neg (by omega)])
  have i1 := hex_at (n / 16) (by omega) ((n : Int) / 16) (by omega)
  have i2 := hex_at (n % 16) (by omega) ((n : Int) % 16) (by omega)
  have c1 := conv_hexd (n / 16) (by omega)
  have c2 := conv_hexd (n % 16) (by omega)
  have w1 := wrap_hexd (n / 16) (by omega)
  have w2 := wrap_hexd (n % 16) (by omega)
  have a1 := u8_and15 (x := (n : Int)) (by omega) (by omega)
  rcases h with h | h
  all_goals
    go_enter Tryd.func48, Tryd.ntmps48
    go_wp2
    go_quiet (fail)
    go_wp2
    go_ret
    exact strMade_three (a := [92, 120]) (b := [hexd (n / 16)]) (c := [hexd (n % 16)]) hq.out (below_drewN (Below.refl _ _) _)
theorem word_quoted (x : Int) (w : World) (h0 : 0 ≤ x) (h1 : x ≤ 255) : Calls Tryd.prog 48 #[.int .u8 x] w (StrMade (qf x.toNat) w) := by
  obtain ⟨n, rfl⟩ := Int.eq_ofNat_of_zero_le h0
  rw [Int.toNat_natCast]
  by_cases e1 : n = 34
  · subst e1
    exact word_quoted_1 w
  · by_cases e2 : n = 92
    · subst e2
      exact word_quoted_2 w
    · by_cases e3 : n = 10
      · subst e3
        exact word_quoted_3 w
      · have f1 : ((n : Int) == 34) = false := by rw [beq_eq_false_iff_ne]; omega
        have f2 : ((n : Int) == 92) = false := by rw [beq_eq_false_iff_ne]; omega
        have f3 : ((n : Int) == 10) = false := by rw [beq_eq_false_iff_ne]; omega
        by_cases h4 : 32 ≤ n ∧ n ≤ 126
        · exact word_quoted_4 n w h4.1 h4.2 f1 f2 f3
        · exact word_quoted_5 n w (by omega) (by omega) f1 f2 f3
set_option maxHeartbeats 400000 in
set_option maxRecDepth 100000 in
theorem ref_one_1 (w : World) : Calls Tryd.prog 36 #[.int .u8 34] w (StrMade (qf 34) w) := by
  go_enter Tryd.func36, Tryd.ntmps36
  go_wp2
  go_ret
  exact strMade rfl (Below.refl _ _)
set_option maxHeartbeats 400000 in
set_option maxRecDepth 100000 in
theorem ref_one_2 (w : World) : Calls Tryd.prog 36 #[.int .u8 92] w (StrMade (qf 92) w) := by
  go_enter Tryd.func36, Tryd.ntmps36
  go_wp2
  go_ret
  exact strMade rfl (Below.refl _ _)
set_option maxHeartbeats 400000 in
set_option maxRecDepth 100000 in
theorem ref_one_3 (w : World) : Calls Tryd.prog 36 #[.int .u8 10] w (StrMade (qf 10) w) := by
  go_enter Tryd.func36, Tryd.ntmps36
  go_wp2
  go_ret
  exact strMade rfl (Below.refl _ _)
set_option maxHeartbeats 400000 in
set_option maxRecDepth 100000 in
theorem ref_one_4 (n : Nat) (w : World) (h0 : 32 ≤ n) (h1 : n ≤ 126) (e1 : ((n : Int) == 34) = false) (e2 : ((n : Int) == 92) = false) (e3 : ((n : Int) == 10) = false) : Calls Tryd.prog 36 #[.int .u8 n] w (StrMade (qf n) w) := by
  have hq := Lib.hid (show qf n = [UInt8.ofNat n] by
    simp at e1 e2 e3
    unfold qf
    rw [if_neg (by omega), if_neg (by omega), if_neg (by omega), if_pos ⟨h0, h1⟩])
  go_enter Tryd.func36, Tryd.ntmps36
  go_wp2
  rw [oneByte _ _ _ rfl]
  simp only [Result.andThen]
  rw [Oper.upon_value]
  go_wp2
  refine bodyPost_ret (v := .string ⟨[UInt8.ofNat (n : Int).toNat].toArray⟩) (by simp [results, Tryd.results36, go_sem]) rfl (strMade (by rw [hq.out, Int.toNat_natCast]) ((Below.refl _ _).alloc (Nat.le_refl _) _))
set_option maxHeartbeats 400000 in
set_option maxRecDepth 100000 in
theorem ref_one_5 (n : Nat) (w : World) (h0 : n ≤ 255) (h : n < 32 ∨ 126 < n) (e1 : ((n : Int) == 34) = false) (e2 : ((n : Int) == 92) = false) (e3 : ((n : Int) == 10) = false) : Calls Tryd.prog 36 #[.int .u8 n] w (StrMade (qf n) w) := by
  have hq := Lib.hid (show qf n = [92, 120, hexd (n / 16), hexd (n % 16)] by
    simp at e1 e2 e3
    unfold qf
    rw [if_neg (by omega), if_neg (by omega), if_neg (by omega), if_neg (by omega)])
  have i1 := hex_at (n / 16) (by omega) ((n : Int) / 16) (by omega)
  have i2 := hex_at (n % 16) (by omega) ((n : Int) % 16) (by omega)
  have c1 := twoBytes w ((hexd (n / 16)).toNat) ((hexd (n % 16)).toNat)
  rcases h with h | h
  all_goals
    go_enter Tryd.func36, Tryd.ntmps36
    go_wp2
    go_region
    all_goals
      go_wp2
      go_ret
      exact strMade_two' (a := [92, 120]) (b := [hexd (n / 16), hexd (n % 16)]) hq.out ((Below.refl _ _).alloc (Nat.le_refl _) _).drew
theorem ref_one (x : Int) (w : World) (h0 : 0 ≤ x) (h1 : x ≤ 255) : Calls Tryd.prog 36 #[.int .u8 x] w (StrMade (qf x.toNat) w) := by
  obtain ⟨n, rfl⟩ := Int.eq_ofNat_of_zero_le h0
  rw [Int.toNat_natCast]
  by_cases e1 : n = 34
  · subst e1
    exact ref_one_1 w
  · by_cases e2 : n = 92
    · subst e2
      exact ref_one_2 w
    · by_cases e3 : n = 10
      · subst e3
        exact ref_one_3 w
      · have f1 : ((n : Int) == 34) = false := by rw [beq_eq_false_iff_ne]; omega
        have f2 : ((n : Int) == 92) = false := by rw [beq_eq_false_iff_ne]; omega
        have f3 : ((n : Int) == 10) = false := by rw [beq_eq_false_iff_ne]; omega
        by_cases h4 : 32 ≤ n ∧ n ≤ 126
        · exact ref_one_4 n w h4.1 h4.2 f1 f2 f3
        · exact ref_one_5 n w (by omega) (by omega) f1 f2 f3
end Go.Proofs.YtigbapkdpaahjaaDoor
