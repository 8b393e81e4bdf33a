/-
  The walks of the program's Unquote and of what it calls: the text that is quoted, or that there is none. Condition: the text has at most 2^40 bytes.
-/
import Derived.Test.YtigbapkdpaahjaaDoorQuote
import Derived.Test.YtigbapkdpaahjaaDoorUnq
namespace Go.Proofs.YtigbapkdpaahjaaDoor
open Go.RowKit
theorem indexByte_bound (l : List UInt8) (c : UInt8) : -1 ≤ Lib.indexByte l c ∧ Lib.indexByte l c < l.length := by
  induction l with
  | nil => simp [Lib.indexByte]
  | cons b r ih =>
    unfold Lib.indexByte
    simp only [List.length_cons]
    split
    · omega
    · split <;> omega
theorem toUInt8_back (c : UInt8) : ((c.toNat : Int).toNat).toUInt8 = c := by
  rw [Int.toNat_natCast]
  simp
set_option maxHeartbeats 400000 in
set_option maxRecDepth 100000 in
theorem word_digit (c : UInt8) (w : World) : Calls Tryd.prog 53 #[.int .u8 c.toNat] w fun e w' => e = .returned (.int .u8 (DG c)) ∧ w' = w := by
  have hb := indexByte_bound hexLit c
  have hl : hexLit.length = 16 := rfl
  rw [hl] at hb
  obtain ⟨hb0, hb1⟩ := hb
  have hd : ((DG c : Nat) : Int) = max 0 (Lib.indexByte hexLit c) := by
    unfold DG
    omega
  have HD := Lib.hid hd
  have hc := (Tryd.strings_IndexByte ⟨#[48, 49, 50, 51, 52, 53, 54, 55, 56, 57, 97, 98, 99, 100, 101, 102]⟩ c.toNat w)
  rw [toUInt8_back] at hc
  have HC := Lib.hid (show Calls Tryd.prog 55 #[.string ⟨#[48, 49, 50, 51, 52, 53, 54, 55, 56, 57, 97, 98, 99, 100, 101, 102]⟩, .int .u8 c.toNat] w fun e w' => e = .returned (.int .i64 (Lib.indexByte hexLit c)) ∧ w' = w from hc)
  clear hd hc hl
  generalize Lib.indexByte hexLit c = x at *
  go_enter Tryd.func53, Tryd.ntmps53
  go_wp2_with fail
  refine HC.out.mono ?_
  rintro e w' ⟨rfl, rfl⟩
  go_wp2_with fail
  go_ret
  exact ⟨ret_int HD.out.symm, rfl⟩
theorem getD_of (s : ByteArray) (k : Nat) (h : k < s.size) : s.data.toList.getD k 0 = s[k] := by
  have := drop_cons s k h
  rw [List.getD_eq_getElem?_getD, ← List.head?_drop, this]
  rfl
theorem byte_eq {c : UInt8} {n : Nat} (hn : n < 256) : ((c.toNat : Int) == (n : Int)) = true ↔ c = UInt8.ofNat n := by
  rw [beq_iff_eq, ← UInt8.toNat_inj]
  simp only [UInt8.toNat_ofNat']
  omega
theorem byte_ne {c : UInt8} {n : Nat} (hn : n < 256) : ((c.toNat : Int) == (n : Int)) = false ↔ ¬ c = UInt8.ofNat n := by
  rw [← byte_eq hn]
  simp
def IntMade (k : IntKind) (n : Int) (w : World) (e : Ending) (w' : World) : Prop := e = .returned (.int k n) ∧ Below w.heap.size w w'
theorem intMade {k : IntKind} {m n : Int} {w w' : World} (h : n = m) (hb : Below w.heap.size w w') : IntMade k n w (.returned (.int k m)) w' := by
  subst h
  exact ⟨rfl, hb⟩
theorem size_len (s : ByteArray) : s.data.toList.length = s.size := rfl
theorem mn_plain (s : ByteArray) (h : 0 < s.size) (hc : ¬ s[0] = 92 ∨ s.size = 1) : Mn s.data.toList = s[0].toNat := by
  unfold Mn
  rw [getD_of s 0 h, size_len, if_pos hc]
theorem mn_n (s : ByteArray) (h : 1 < s.size) (hc : s[0] = 92) (h1 : s[1] = 110) : Mn s.data.toList = 10 := by
  unfold Mn
  rw [getD_of s 0 (by omega), getD_of s 1 h, size_len, if_neg (by simp [hc]; omega), if_pos h1]
theorem mn_x (s : ByteArray) (h : 4 ≤ s.size) (hc : s[0] = 92) (h1 : s[1] = 120) : Mn s.data.toList = DG s[2] * 16 + DG s[3] := by
  unfold Mn
  rw [getD_of s 0 (by omega), getD_of s 1 (by omega), getD_of s 2 (by omega), getD_of s 3 (by omega), size_len, if_neg (by simp [hc]; omega), if_neg (by rw [h1]; decide), if_pos ⟨h1, h⟩]
theorem mn_else (s : ByteArray) (h : 1 < s.size) (hc : s[0] = 92) (h1 : ¬ s[1] = 110) (h2 : ¬ (s[1] = 120 ∧ 4 ≤ s.size)) : Mn s.data.toList = s[1].toNat := by
  unfold Mn
  rw [getD_of s 0 (by omega), getD_of s 1 h, size_len, if_neg (by simp [hc]; omega), if_neg h1, if_neg h2]
theorem or_u8 (a b : Nat) (ha : a ≤ 15) (hb : b ≤ 15) : bits BinOp.or IntKind.u8 ((a : Int) * 16) (b : Int) = ((a * 16 + b : Nat) : Int) := by
  have := bits_join .u8 8 (by decide) wraps_u8 4 ((a : Int) * 16) b (by omega) (by omega) (by omega) (by omega) (by omega) (by omega)
  rw [this]
  omega
theorem index_at (s : ByteArray) (k : Nat) (h : k < s.size) (x : Int) (hx : x = k) (w : World) : (Instr.index 9 (.string s) (.int .i64 x)).run Tryd.prog w = .ok (.int .u8 s[k].toNat) w := by
  subst hx
  rw [run_index_string _ _ _ _ _ Tryd.underlying9, dif_pos ⟨by omega, by omega⟩]
  simp
set_option maxHeartbeats 400000 in
set_option maxRecDepth 100000 in
theorem word_meant (s : ByteArray) (w : World) (h : 0 < s.size) (hs : s.size ≤ maxLen) : Calls Tryd.prog 47 #[.string s] w (IntMade .u8 (Mn s.data.toList) w) := by
  unfold maxLen at hs
  by_cases hc : s[0] = 92
  · have e0 : ((s[0].toNat : Int) == 92) = true := (byte_eq (n := 92) (by decide)).2 hc
    have e0' : ((s[0].toNat : Int) != 92) = false := by rw [bne, e0]; rfl
    by_cases h1 : s.size = 1
    · have HM := Lib.hid (mn_plain s h (Or.inr h1))
      have f1 : ((s.size : Int) == 1) = true := by rw [beq_iff_eq]; omega
      clear hc h1
      go_enter Tryd.func47, Tryd.ntmps47
      go_wp2
      go_ret
      exact intMade (congrArg Int.ofNat HM.out) (Below.refl _ _)
    · have f1 : ((s.size : Int) == 1) = false := by rw [beq_eq_false_iff_ne]; omega
      have h2 : 1 < s.size := by omega
      by_cases hn : s[1] = 110
      · have HM := Lib.hid (mn_n s h2 hc hn)
        have e1 : ((s[1].toNat : Int) == 110) = true := (byte_eq (n := 110) (by decide)).2 hn
        clear hc hn
        go_enter Tryd.func47, Tryd.ntmps47
        go_wp2
        go_ret
        exact intMade (congrArg Int.ofNat HM.out) (Below.refl _ _)
      · have e1 : ((s[1].toNat : Int) == 110) = false := (byte_ne (n := 110) (by decide)).2 hn
        by_cases hx : s[1] = 120
        · have e2 : ((s[1].toNat : Int) == 120) = true := (byte_eq (n := 120) (by decide)).2 hx
          by_cases h4 : 4 ≤ s.size
          · have HM := Lib.hid (mn_x s h4 hc hx)
            have d2 := DG_small s[2]
            have d3 := DG_small s[3]
            have ho := or_u8 (DG s[2]) (DG s[3]) d2 d3
            have hw : IntKind.u8.wrap ((DG s[2] : Int) * 16) = (DG s[2] : Int) * 16 := by rw [IntKind.wrap_u8]; omega
            have i2 := index_at s 2 (by omega) 2 rfl
            have i3 := index_at s 3 (by omega) 3 rfl
            clear hc hn hx
            go_enter Tryd.func47, Tryd.ntmps47
            go_wp2_with fail
            go_quiet ((go_at_call 53; exact Calls.quiet_of_same (word_digit _ _)))
            go_wp2_with fail
            go_ret
            exact intMade (congrArg Int.ofNat HM.out) (below_drewN (Below.refl _ _) _)
          · have HM := Lib.hid (mn_else s h2 hc hn (fun hh => h4 hh.2))
            clear hc hn hx
            go_enter Tryd.func47, Tryd.ntmps47
            go_wp2
            go_ret
            exact intMade (congrArg Int.ofNat HM.out) (Below.refl _ _)
        · have HM := Lib.hid (mn_else s h2 hc hn (fun hh => hx hh.1))
          have e2 : ((s[1].toNat : Int) == 120) = false := (byte_ne (n := 120) (by decide)).2 hx
          clear hc hn hx
          go_enter Tryd.func47, Tryd.ntmps47
          go_wp2
          go_ret
          exact intMade (congrArg Int.ofNat HM.out) (Below.refl _ _)
  · have HM := Lib.hid (mn_plain s h (Or.inl hc))
    have e0 : ((s[0].toNat : Int) == 92) = false := (byte_ne (n := 92) (by decide)).2 hc
    have e0' : ((s[0].toNat : Int) != 92) = true := by rw [bne, e0]; rfl
    clear hc
    go_enter Tryd.func47, Tryd.ntmps47
    go_wp2
    go_ret
    exact intMade (congrArg Int.ofNat HM.out) (Below.refl _ _)
end Go.Proofs.YtigbapkdpaahjaaDoor
