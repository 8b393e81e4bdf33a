/-
  Plain facts on integers: bringing a number into 63 bits, a number's word, and back. Imports nothing of the program.
  The walks of the calls on numbers, words and addresses, of the program and of the reference.
  The walks of Read of both sides: which number a text is, or what is wrong: both are what the plain function ReadV says. Condition: the text has at most maxLen bytes.
  The walks of strings.Builder's copyCheck, WriteByte and WriteString, at a builder that the call itself has made: what is written stands behind what the builder held, and nothing older has turned. Condition: the new length takes at most 2^47 bytes.
  The walks of the quoted form of one byte, of both sides, and of the byte that a quoted form may begin with.
  The walks of Quote of both sides: the quoted forms of a text's bytes, between quotation marks. Condition: the text has at most 2^40 bytes.
  Plain facts: what is quoted: byte by byte the one whose quoted form stands there; there is at most one.
  The walks of the program's Unquote and of what it calls: the text that is quoted, or that there is none. Condition: the text has at most 2^40 bytes.
  The walk of the program's Unquote: what the plain function UnqV says. Condition: the text has at most 2^40 bytes.
  The walk of the reference's Quote: the quoted forms of a text's bytes, between quotation marks. Condition: the text has at most 2^40 bytes.
  The walk of the reference's Unquote: what the plain function UnqV says. Condition: the text has at most 2^40 bytes.
  The walks of Text of both sides: the decimal digits of a number of 64 bits, with a sign ahead of them if it is negative. Condition for the program's: strconv's table of powers of ten holds what its initialiser lays.
  Plain facts: what is quoted is read as it was; a printed number that is not negative is read as it was; what a mask of 31 bits leaves.
-/
import Derived.WalkKit
import Derived.WalkSmall
import Derived.Test.YtecpldnjpapalaaDoorRows
import Derived.Lib.Hide
import Derived.MapKept
import Derived.Laws.BytesArg
import Derived.Lib.Builder
import Derived.WalkSpells
import Derived.WalkLawsBesides
import Derived.Test.YtecpldnjpapalaaDoorShelf
import Derived.Lib.Strings
import Derived.Lib.Walk
import Derived.Lib.AppendStr
import Derived.Laws.Externs
import Derived.Deep.QuietTactic
import Derived.BigQuiet
import Derived.RegionTactic
import Derived.ChangeAlike
import Derived.Deep.LoopGhost
import Derived.Lib.Bytealg
import Derived.Lib.IndexBytes
import Derived.Lib.ItoaMem
import Derived.Laws.Concat
import Derived.Lib.AppendIntMem
import Derived.Lib.ItoaLen
import Derived.Laws.BitsLemmas
namespace Go.Proofs.YtecpldnjpapalaaDoor
section
open Go.RowKit

/-- n brought into 63 bits. -/
def W63 (n : Int) : Int := (n + 4611686018427387904) % 9223372036854775808 - 4611686018427387904
/-- wrapped as 64 bits without a sign -/
def U64 (n : Int) : Int := n % 18446744073709551616
/-- the word of a number -/
def WOf (n : Int) : Int := U64 (2 * W63 n + 1)
def WNum (w : Int) : Int := if w / 2 < 4611686018427387904 then w / 2 else w / 2 - 9223372036854775808
def WRef (a : Int) : Int := if a < 0 ∨ 2147483647 < a then 0 else 2 * a
def WAddr (w : Int) : Int := if w % 2 = 1 ∨ 2147483647 < w / 2 then 0 else w / 2
def WIs (w : Int) : Bool := decide (w % 2 = 1)

theorem w63_lo (n : Int) : -4611686018427387904 ≤ W63 n := by unfold W63; omega
theorem w63_hi (n : Int) : W63 n ≤ 4611686018427387903 := by unfold W63; omega
theorem w63_shl (n : Int) : wrap64 (n * 2) / 2 = W63 n := by unfold W63 wrap64; omega
theorem w63_above (n : Int) (h : n ≤ 9223372036854775807) (h1 : 4611686018427387903 < n) : n - 4611686018427387903 - 4611686018427387903 - 2 = W63 n := by
  unfold W63; omega
theorem w63_below (n : Int) (h : -9223372036854775808 ≤ n) (h1 : n < -4611686018427387904) : n + 4611686018427387903 + 4611686018427387903 + 2 = W63 n := by
  unfold W63; omega
theorem w63_in (n : Int) (h : -4611686018427387904 ≤ n) (h1 : n ≤ 4611686018427387903) : W63 n = n := by unfold W63; omega
theorem w63_idem (n : Int) : W63 (W63 n) = W63 n := w63_in _ (w63_lo n) (w63_hi n)
theorem w63_wrap64 (n : Int) : W63 (wrap64 n) = W63 n := by unfold W63 wrap64; omega
theorem wof_lo (n : Int) : 0 ≤ WOf n := by unfold WOf U64; omega
theorem wof_hi (n : Int) : WOf n ≤ 18446744073709551615 := by unfold WOf U64; omega
theorem wnum_of (n : Int) : WNum (WOf n) = W63 n := by
  have h1 := w63_lo n
  have h2 := w63_hi n
  unfold WNum WOf U64
  split <;> omega
theorem wis_of (n : Int) : WIs (WOf n) = true := by
  unfold WIs WOf U64
  simp only [decide_eq_true_eq]
  omega
theorem wref_lo (a : Int) : 0 ≤ WRef a := by unfold WRef; split <;> omega
theorem wref_hi (a : Int) : WRef a ≤ 18446744073709551615 := by unfold WRef; split <;> omega
theorem waddr_ref (a : Int) (h0 : 0 ≤ a) (h1 : a ≤ 2147483647) : WAddr (WRef a) = a := by
  unfold WAddr WRef
  rw [if_neg (by omega)]
  rw [if_neg (by omega)]
  omega
theorem wis_ref (a : Int) : WIs (WRef a) = false := by
  unfold WIs WRef
  simp only [decide_eq_false_iff_not]
  split <;> omega
theorem u64_wrap (n : Int) : IntKind.u64.wrap n = n % 18446744073709551616 := by simp [IntKind.wrap, IntKind.bits, IntKind.signed]
theorem wraps_u64 (n : Int) (h0 : 0 ≤ n) (h1 : n < 2 ^ 64) : IntKind.u64.wrap n = n := by rw [u64_wrap]; omega
theorem or_one_u64 (x : Int) (h0 : 0 ≤ x) (h1 : x ≤ 18446744073709551615) (hx : x % 2 = 0) : bits BinOp.or IntKind.u64 x 1 = x + 1 :=
  bits_join .u64 64 (by decide) wraps_u64 1 x 1 h0 (by omega) (by omega) (by omega) (by omega) (by omega)
theorem wof_bits (n : Int) : bits BinOp.or IntKind.u64 (IntKind.u64.wrap (IntKind.u64.wrap n * 2)) 1 = WOf n := by
  rw [u64_wrap, u64_wrap, or_one_u64 _ (by omega) (by omega) (by omega)]
  unfold WOf U64 W63
  omega
theorem wof_sum (n : Int) : IntKind.u64.wrap (IntKind.u64.wrap (IntKind.u64.wrap (W63 n) * 2) + 1) = WOf n := by
  rw [u64_wrap, u64_wrap, u64_wrap]
  unfold WOf U64 W63
  omega
theorem wnum_half (n : Int) (h0 : 0 ≤ n) (h1 : n ≤ 18446744073709551615) : wrap64 n / 2 = WNum n := by
  unfold WNum wrap64
  split <;> omega
theorem wis_and (n : Int) (h0 : 0 ≤ n) (h1 : n ≤ 18446744073709551615) : (bits BinOp.and IntKind.u64 n 1 == 1) = WIs n := by
  rw [and_one_u64 n h0 h1]
  unfold WIs
  rw [Bool.eq_iff_iff]
  simp
theorem wis_rem (n : Int) : (n % 2 == 1) = WIs n := by
  unfold WIs
  rw [Bool.eq_iff_iff]
  simp
end
section
open Go.RowKit
theorem box_at (W : World) (o : Obj) (n : Nat) (hn : n = W.heap.size) : (W.alloc o).heap[n]? = some o := by
  subst hn
  exact (MapKept.heap_alloc W o).1
/-- Two numbers are returned, and the world stands. -/
def Two (x y : Int) (w : World) (e : Ending) (w' : World) : Prop := e = .returned (.tuple #[.int .i64 x, .int .i64 y]) ∧ w = w'
/-- A text is returned, and what was there stands. -/
def StrMade (l : List UInt8) (w : World) (e : Ending) (w' : World) : Prop := e = .returned (.string ⟨l.toArray⟩) ∧ Below w.heap.size w w'
theorem oneByte (w : World) (c : Int) (b : Nat) (hb : b = w.heap.size) : (convert 81 9 (.slice (some ⟨b, 0, none⟩) 1 1)).run Tryd.prog (w.alloc (.cells #[.int .u8 c] 5 (0, 0))) = .ok (.string ⟨[UInt8.ofNat c.toNat].toArray⟩) (w.alloc (.cells #[.int .u8 c] 5 (0, 0))) := by
  refine (run_convert_bytes_arg _ 81 5 Tryd.underlying81 Tryd.underlying5 b 0 1 1 [c] rfl ?_ 9 Tryd.underlying9)
  intro i hi
  obtain rfl : i = 0 := by omega
  exact Lib.cell_of_heap (box_at w _ b hb) 0
theorem twoBytes (w : World) (c d : Int) : (convert 81 9 (.slice (some ⟨w.heap.size, 0, none⟩) 2 2)).run Tryd.prog (w.alloc (.cells #[.int .u8 c, .int .u8 d] 5 (0, 0))).drew = .ok (.string ⟨[UInt8.ofNat c.toNat, UInt8.ofNat d.toNat].toArray⟩) (w.alloc (.cells #[.int .u8 c, .int .u8 d] 5 (0, 0))).drew := by
  refine (run_convert_bytes_arg _ 81 5 Tryd.underlying81 Tryd.underlying5 w.heap.size 0 2 2 [c, d] rfl ?_ 9 Tryd.underlying9)
  intro i hi
  rcases (by omega : i = 0 ∨ i = 1) with rfl | rfl
  · exact Lib.cell_of_heap (w := w.alloc (.cells #[.int .u8 c, .int .u8 d] 5 (0, 0))) (box_at w _ w.heap.size rfl) 0
  · exact Lib.cell_of_heap (w := w.alloc (.cells #[.int .u8 c, .int .u8 d] 5 (0, 0))) (box_at w _ w.heap.size rfl) 1
theorem ret_int {k : IntKind} {a b : Int} (h : a = b) : Ending.returned (.int k a) = .returned (.int k b) := by rw [h]
theorem ret_bool {a b : Bool} (h : a = b) : Ending.returned (.bool a) = .returned (.bool b) := by rw [h]
end
section
open Go.RowKit
def isDig (c : UInt8) : Bool := decide (48 ≤ c.toNat) && decide (c.toNat ≤ 57)
/-- Digits without a leading 0, or 0 itself. -/
def isNum (l : List UInt8) : Bool := l.all isDig && (decide (l = [48]) || (decide (l ≠ []) && decide (l.head? ≠ some 48)))
/-- The number so far is n; none if it grows too much. -/
def readGo (n : Int) : List UInt8 → Option Int
  | [] => some n
  | c :: r => if (4611686018427387903 - ((c.toNat : Int) - 48)) / 10 < n then none else readGo (10 * n + ((c.toNat : Int) - 48)) r
def ReadV (l : List UInt8) : Int × Int :=
  if isNum l = true then (match readGo 0 l with | some n => (n, 0) | none => (0, 2)) else (0, 5)
theorem take_snoc (s : ByteArray) (k : Nat) (h : k < s.size) : s.data.toList.take (k + 1) = s.data.toList.take k ++ [s[k]] := by
  rw [List.take_succ_eq_append_getElem (by simpa using h)]; rfl
theorem drop_cons (s : ByteArray) (k : Nat) (h : k < s.size) : s.data.toList.drop k = s[k] :: s.data.toList.drop (k + 1) := by
  rw [List.drop_eq_getElem_cons (by simpa using h)]; rfl
theorem drop_end (s : ByteArray) : s.data.toList.drop s.size = [] := by
  rw [List.drop_eq_nil_iff]
  exact Nat.le_refl _
theorem take_end (s : ByteArray) : s.data.toList.take s.size = s.data.toList := List.take_of_length_le (Nat.le_refl _)
theorem dig_yes {c : UInt8} (h0 : ¬ (c.toNat : Int) < 48) (h1 : ¬ 57 < (c.toNat : Int)) : isDig c = true := by
  unfold isDig
  simp
  omega
theorem dig_lo {c : UInt8} (h0 : (c.toNat : Int) < 48) : isDig c = false := by
  unfold isDig
  simp
  omega
theorem dig_hi {c : UInt8} (h0 : 57 < (c.toNat : Int)) : isDig c = false := by
  unfold isDig
  simp
  omega
theorem all_not (s : ByteArray) (k : Nat) (h : k < s.size) (hc : isDig s[k] = false) : s.data.toList.all isDig = false := by
  rw [← List.take_append_drop k s.data.toList, List.all_append, drop_cons s k h]
  simp [hc]
theorem all_step (s : ByteArray) (k : Nat) (h : k < s.size) (ha : (s.data.toList.take k).all isDig = true) (hc : isDig s[k] = true) : (s.data.toList.take (k + 1)).all isDig = true := by
  rw [take_snoc s k h, List.all_append, ha]
  simp [hc]
theorem list_of (s : ByteArray) : s.toList = s.data.toList := ByteArray.toList_eq s
theorem head_of (s : ByteArray) (h : 0 < s.size) : s.data.toList.head? = some s[0] := by
  have := drop_cons s 0 h
  rw [List.drop_zero] at this
  rw [this]
  rfl
theorem empty_of (s : ByteArray) (h : ¬ 0 < s.size) : s.data.toList = [] := by
  rw [← List.length_eq_zero_iff]
  have : s.data.toList.length = s.size := rfl
  omega
theorem isNum_one (s : ByteArray) (h : s.toList = [48]) : isNum s.data.toList = true := by
  rw [list_of] at h
  rw [h]
  decide
theorem isNum_none (s : ByteArray) (h : ¬ 0 < s.size) : isNum s.data.toList = false := by
  rw [empty_of s h]
  decide
theorem isNum_more (s : ByteArray) (h1 : ¬ s.toList = [48]) (h : 0 < s.size) (ha : s.data.toList.all isDig = true) : isNum s.data.toList = ((s[0].toNat : Int) != 48) := by
  rw [list_of] at h1
  unfold isNum
  rw [ha, head_of s h]
  have h2 : s.data.toList ≠ [] := by
    intro e
    have : s.data.toList.length = s.size := rfl
    rw [e] at this
    simp at this
    omega
  have h3 : (s[0] = 48) ↔ ((s[0].toNat : Int) = 48) := by
    rw [← UInt8.toNat_inj]
    have : (48 : UInt8).toNat = 48 := rfl
    rw [this]
    omega
  rw [Bool.eq_iff_iff]
  simp [h1, h2, h3]
set_option maxHeartbeats 400000 in
theorem word_isNumeral (s : ByteArray) (w : World) (hs : s.size ≤ maxLen) : Calls Tryd.prog 61 #[.string s] w fun e w' => e = .returned (.bool (isNum s.data.toList)) ∧ w = w' := by
  unfold maxLen at hs
  go_enter Tryd.func61, Tryd.ntmps61
  go_wp2
  go_loop [6] (fun i => ∃ k : Nat, k ≤ s.size ∧ i = .int .i64 k ∧ (s.data.toList.take k).all isDig = true) (fun i => s.size - (intOf i).toNat)
  case atStart => exact ⟨0, Nat.zero_le _, rfl, rfl⟩
  case round =>
    obtain ⟨k, hk, rfl, hall⟩ := hrel
    have HA := Lib.hid hall
    clear hall
    by_cases hlt : k < s.size
    · by_cases h0 : (s[k].toNat : Int) < 48
      · have HF := Lib.hid (all_not s k hlt (dig_lo h0))
        go_wp2
        go_ret
        exact ⟨ret_bool (by unfold isNum; rw [HF.out]; rfl), rfl⟩
      · by_cases h1 : 57 < (s[k].toNat : Int)
        · have HF := Lib.hid (all_not s k hlt (dig_hi h1))
          go_wp2
          go_ret
          exact ⟨ret_bool (by unfold isNum; rw [HF.out]; rfl), rfl⟩
        · have HN := Lib.hid (all_step s k hlt HA.out (dig_yes h0 h1))
          go_wp2
          go_round
          case rel => exact ⟨k + 1, by omega, by go_num, HN.out⟩
          case measure => simp [intOf]; omega
    · obtain rfl : k = s.size := by omega
      rw [take_end] at HA
      by_cases e1 : s.toList = [48]
      · have HF := Lib.hid (isNum_one s e1)
        have e2 : (s.toList == [48]) = true := by rw [e1]; rfl
        clear e1
        go_wp2
        go_ret
        exact ⟨ret_bool HF.out.symm, rfl⟩
      · have e2 : (s.toList == [48]) = false := by simpa using e1
        by_cases e3 : 0 < s.size
        · have HF := Lib.hid (isNum_more s e1 e3 HA.out)
          have e4 : s.toList.isEmpty = false := by
            rw [list_of, List.isEmpty_eq_false_iff]
            intro e
            have : s.data.toList.length = s.size := rfl
            rw [e] at this
            simp at this
            omega
          clear e1
          go_wp2
          go_ret
          exact ⟨ret_bool HF.out.symm, rfl⟩
        · have HF := Lib.hid (isNum_none s e3)
          have e4 : s.toList.isEmpty = true := by rw [list_of, empty_of s e3]; rfl
          clear e1
          go_wp2
          go_ret
          exact ⟨ret_bool HF.out.symm, rfl⟩
theorem readGo_yes (n : Int) (s : ByteArray) (k : Nat) (h : k < s.size) (hc : ¬ (4611686018427387903 - ((s[k].toNat : Int) - 48)) / 10 < n) : readGo n (s.data.toList.drop k) = readGo (10 * n + ((s[k].toNat : Int) - 48)) (s.data.toList.drop (k + 1)) := by
  rw [drop_cons s k h, readGo, if_neg hc]
theorem readGo_no (n : Int) (s : ByteArray) (k : Nat) (h : k < s.size) (hc : (4611686018427387903 - ((s[k].toNat : Int) - 48)) / 10 < n) : readGo n (s.data.toList.drop k) = none := by
  rw [drop_cons s k h, readGo, if_pos hc]
theorem dig_at (s : ByteArray) (k : Nat) (h : k < s.size) (ha : s.data.toList.all isDig = true) : 48 ≤ (s[k].toNat : Int) ∧ (s[k].toNat : Int) ≤ 57 := by
  have h1 : isDig s[k] = true := by
    rw [List.all_eq_true] at ha
    exact ha _ (Array.getElem_mem_toList (xs := s.data) (by exact h))
  unfold isDig at h1
  simp at h1
  omega
theorem readV_num {l : List UInt8} {n : Int} (h : isNum l = true) (h2 : readGo 0 l = some n) : ReadV l = (n, 0) := by
  unfold ReadV
  rw [if_pos h, h2]
theorem readV_big {l : List UInt8} (h : isNum l = true) (h2 : readGo 0 l = none) : ReadV l = (0, 2) := by
  unfold ReadV
  rw [if_pos h, h2]
theorem readV_form {l : List UInt8} (h : isNum l = false) : ReadV l = (0, 5) := by
  unfold ReadV
  rw [h]
  rfl
theorem two_read {l : List UInt8} {x y : Int} (w : World) (h : ReadV l = (x, y)) : Two (ReadV l).1 (ReadV l).2 w (.returned (.tuple #[.int .i64 x, .int .i64 y])) w := by
  rw [h]
  exact ⟨rfl, rfl⟩
set_option maxHeartbeats 400000 in
theorem word_Read (s : ByteArray) (w : World) (hs : s.size ≤ maxLen) : Calls Tryd.prog 53 #[.string s] w (Two (ReadV s.data.toList).1 (ReadV s.data.toList).2 w) := by
  by_cases hn : isNum s.data.toList = true
  · have HN := Lib.hid hn
    have hi := (word_isNumeral s w hs)
    rw [hn] at hi
    have HI := Lib.hid hi
    have hd := fun k (h : k < s.size) => dig_at s k h (by unfold isNum at hn; simp only [Bool.and_eq_true] at hn; exact hn.1)
    have HD := Lib.hid hd
    unfold maxLen at hs
    clear hn hi hd
    go_enter Tryd.func53, Tryd.ntmps53
    go_wp2_with fail
    refine HI.out.mono ?_
    rintro e w' ⟨rfl, rfl⟩
    go_wp2_with fail
    go_loop [4, 12] (fun m i => ∃ (k : Nat) (n : Int), k ≤ s.size ∧ i = .int .i64 k ∧ m = .int .i64 n ∧ 0 ≤ n ∧ n ≤ 4611686018427387903 ∧ readGo 0 s.data.toList = readGo n (s.data.toList.drop k)) (fun _ i => s.size - (intOf i).toNat)
    case atStart => exact ⟨0, 0, Nat.zero_le _, rfl, rfl, Int.le_refl _, by omega, rfl⟩
    case round =>
      obtain ⟨k, n, hk, rfl, rfl, hn0, hn1, hrel⟩ := hrel
      have HR := Lib.hid hrel
      clear hrel
      by_cases hlt : k < s.size
      · obtain ⟨hc0, hc1⟩ := HD.out k hlt
        by_cases hbig : (4611686018427387903 - ((s[k].toNat : Int) - 48)) / 10 < n
        · have HF := Lib.hid (readV_big HN.out (HR.out.trans (readGo_no n s k hlt hbig)))
          go_wp2
          go_ret2
          exact two_read _ HF.out
        · have HF := Lib.hid (HR.out.trans (readGo_yes n s k hlt hbig))
          go_wp2
          go_round
          case rel => exact ⟨k + 1, 10 * n + ((s[k].toNat : Int) - 48), by omega, by go_num, rfl, by omega, by omega, HF.out⟩
          case measure => simp [intOf]; omega
      · obtain rfl : k = s.size := by omega
        have HF := Lib.hid (readV_num HN.out (HR.out.trans (by rw [drop_end]; rfl)))
        go_wp2
        go_ret2
        exact two_read _ HF.out
  · have hn' : isNum s.data.toList = false := by simpa using hn
    have HN := Lib.hid (readV_form hn')
    have hi := (word_isNumeral s w hs)
    rw [hn'] at hi
    have HI := Lib.hid hi
    clear hn hn' hi
    go_enter Tryd.func53, Tryd.ntmps53
    go_wp2_with fail
    refine HI.out.mono ?_
    rintro e w' ⟨rfl, rfl⟩
    go_wp2_with fail
    go_ret2
    exact two_read _ HN.out
end
section
open Go.RowKit
theorem sizeBuilder : (Tryd.prog.info? 98).map (·.size) = some 2 := by kernel_rfl
theorem liesBuilder : liesAt Tryd.prog Tryd.prog.depth 98 (2 / Tryd.prog.cellsOf 98) 0 98 1 = true := by kernel_rfl
theorem infoByte : (Tryd.prog.info? 5).map (fun i => (i.zero, i.size, i.bytes)) = some (some (.int .u8 0), 1, 1) := by kernel_rfl
set_option maxHeartbeats 1000000 in
set_option maxRecDepth 100000 in
theorem copyCheck_used (b : Nat) (w : World) (h0 : w.cell? ⟨b, 0, none⟩ = some (.pointer (some ⟨b, 0, none⟩))) :
    Calls Tryd.prog 78 #[.pointer (some ⟨b, 0, none⟩)] w fun e w' => e = .returned (.tuple #[]) ∧ w' = w := by
  obtain ⟨j, hj, _⟩ := Option.map_eq_some_iff.1 sizeBuilder
  go_enter Tryd.func78, Tryd.ntmps78
  go_wp2
  rw [Lib.run_neq_ptr_same w _ Tryd.underlying96 hj]
  go_wp2
  go_end0
  exact ⟨rfl, rfl⟩
set_option maxHeartbeats 1000000 in
set_option maxRecDepth 100000 in
theorem copyCheck_fresh (b : Nat) (w : World) (h0 : w.cell? ⟨b, 0, none⟩ = some (.pointer none)) (hsh : w.shape? b = some (98, 2)) (hfz : w.frozen? ⟨b, 0, none⟩ = false) :
    Calls Tryd.prog 78 #[.pointer (some ⟨b, 0, none⟩)] w fun e w' => e = .returned (.tuple #[]) ∧ w' = w.setCell ⟨b, 0, none⟩ (.pointer (some ⟨b, 0, none⟩)) := by
  obtain ⟨j, hj, hjs⟩ := Option.map_eq_some_iff.1 sizeBuilder
  go_enter Tryd.func78, Tryd.ntmps78
  go_wp2
  rw [Lib.run_to_unsafe w ⟨b, 0, none⟩ Tryd.underlying96 Tryd.underlying117 hj (by rw [hjs]; decide) hsh (Nat.zero_lt_succ 1)]
  simp only [Result.andThen]
  rw [Oper.upon_value]
  go_wp2
  rw [run_callFunc_extern Tryd.func86 (by kernel_rfl) (by kernel_rfl) (by kernel_rfl) (e := Extern.AbiNoEscape.same) (by kernel_rfl)]
  rw [Lib.run_noEscape]
  simp only [Result.andThen]
  rw [Oper.upon_value]
  go_wp2
  rw [Lib.run_from_unsafe w ⟨b, 0, none⟩ Tryd.underlying117 Tryd.underlying96 hj hsh liesBuilder]
  simp only [Result.andThen]
  rw [Oper.upon_value]
  go_wp2
  go_end0
  exact ⟨rfl, rfl⟩
theorem copyCheck_any (B b : Nat) (bs : List Value) (w : World) (h : Lib.IsBuilder 98 5 B b bs w) :
    Calls Tryd.prog 78 #[.pointer (some ⟨b, 0, none⟩)] w fun e w' => e = .returned (.tuple #[]) ∧ (Lib.BuilderAt 98 5 B b (.pointer (some ⟨b, 0, none⟩)) bs w' ∧ Below B w w') := by
  rcases h with h | h
  · refine (copyCheck_fresh b w h.cell0 h.shape h.frozen0).mono ?_
    rintro e w' ⟨rfl, rfl⟩
    exact ⟨rfl, h.used _, (Below.refl B w).setCell (p := ⟨b, 0, none⟩) h.1 _⟩
  · refine (copyCheck_used b w h.cell0).mono ?_
    rintro e w' ⟨rfl, rfl⟩
    exact ⟨rfl, h, Below.refl B _⟩
set_option maxHeartbeats 2000000 in
set_option maxRecDepth 100000 in
theorem build_WriteByte (B b : Nat) (bs : List Value) (c : Int) (w : World) (h : Lib.IsBuilder 98 5 B b bs w) (hlen : bs.length + 1 ≤ 140737488355328) (hBw : B ≤ w.heap.size) :
    Calls Tryd.prog 64 #[.pointer (some ⟨b, 0, none⟩), .int .u8 c] w fun e w' => e = .returned .nilIface ∧ Lib.IsBuilder 98 5 B b (bs ++ [.int .u8 c]) w' ∧ Below B w w' := by
  obtain ⟨i0, hi, hz0, hz1, hz2⟩ := info_parts infoByte
  go_enter Tryd.func64, Tryd.ntmps64
  go_wp2_with (go_at_call 78; refine (copyCheck_any B b bs _ h).mono ?_)
  rintro e w1 ⟨rfl, h1, hb1⟩
  obtain ⟨hB, v, hbk, hown, hne⟩ := h1
  have c0 : w1.cell? ⟨b, 0, none⟩ = some (.pointer (some ⟨b, 0, none⟩)) := by rw [Lib.cell_of_heap hbk]; rfl
  have c1 : w1.cell? ⟨b, 1, none⟩ = some v := by rw [Lib.cell_of_heap hbk]; rfl
  go_wp2_with (at_builtin; refine wpList_append_own _ rfl _ _ 81 rfl B 5 i0 (.int .u8 0) 1 1 Tryd.underlying81 hi hz0 hz1 hz2 rfl (by decide) _ _ _ rfl (hown.alloc _) ⟨w1.heap.size, 0, none⟩ 1 1 [.int .u8 c] rfl rfl ?c1 ?c2 ?c3 ?c4 ?c5 ?_)
  case c1 =>
    intro j u hj
    match j, hj with
    | 0, hj => simp at hj; subst hj; simp [Addr.add]
  case c2 => intro u hu; simp at hu; subst hu; rfl
  case c3 => unfold maxLen; omega
  case c4 => omega
  case c5 => have := hb1.size; simp; omega
  intro v' w2 hown' hgrow _
  have hlt : b < w1.heap.size := by
    rcases Nat.lt_or_ge b w1.heap.size with h' | h'
    · exact h'
    · simp [Array.getElem?_eq_none h'] at hbk
  have hb2 : w2.heap[b]? = some (.cells #[.pointer (some ⟨b, 0, none⟩), v] 98 (0, 0)) := by
    rw [hgrow.block b (by simp; omega) (fun e => hne e.symm), Lib.alloc_old w1 _ b hlt]
    exact hbk
  have d0 : w2.cell? ⟨b, 0, none⟩ = some (.pointer (some ⟨b, 0, none⟩)) := by rw [Lib.cell_of_heap hb2]; rfl
  have d1 : w2.cell? ⟨b, 1, none⟩ = some v := by rw [Lib.cell_of_heap hb2]; rfl
  have f1 : w2.frozen? ⟨b, 1, none⟩ = false := Lib.frozen_of_heap hb2 1
  obtain ⟨g, cap, rfl⟩ : ∃ g cap, v' = .slice (some ⟨g, 0, none⟩) (bs.length + 1) cap := by
    rcases hown'.2 with ⟨_, h0⟩ | ⟨g, cap, cur, hv, _⟩
    · omega
    · exact ⟨g, cap, hv⟩
  go_wp2
  go_ret
  refine ⟨rfl, Or.inr ?_, ?_⟩
  · exact Lib.BuilderAt.put (T := 98) (e := 5) hB hb2 (bs' := bs ++ [.int .u8 c]) (by simpa using hown') (by decide)
  · exact ((hb1.alloc (by have := hb1.size; omega) _).grown hgrow (by have := hb1.size; simp; omega) (fun k hk => (hown.lt k hk).1)).setCell (p := ⟨b, 1, none⟩) hB _
end
section
open Go.RowKit
def hexd (k : Nat) : UInt8 := if k < 10 then UInt8.ofNat (48 + k) else UInt8.ofNat (87 + k)
/-- A byte's quoted form. -/
def qf (n : Nat) : List UInt8 :=
  if n = 34 then [92, 34] else if n = 92 then [92, 92] else if n = 10 then [92, 110] else if 32 ≤ n ∧ n ≤ 126 then [UInt8.ofNat n] else [92, 120, hexd (n / 16), hexd (n % 16)]
theorem strMade {l m : List UInt8} {w w' : World} (h : l = m) (hb : Below w.heap.size w w') : StrMade l w (.returned (.string ⟨m.toArray⟩)) w' := by
  subst h
  exact ⟨rfl, hb⟩
theorem strMade_two' {l a b : List UInt8} {w w' : World} (h : l = a ++ b) (hb : Below w.heap.size w w') : StrMade l w (.returned (.string (⟨a.toArray⟩ ++ ⟨b.toArray⟩))) w' :=
  ⟨by rw [ByteArray.mk_append_mk, h], hb⟩
theorem strMade_three {l a b c : List UInt8} {w w' : World} (h : l = a ++ b ++ c) (hb : Below w.heap.size w w') : StrMade l w (.returned (.string (⟨a.toArray⟩ ++ ⟨b.toArray⟩ ++ ⟨c.toArray⟩))) w' :=
  ⟨by rw [ByteArray.mk_append_mk, ByteArray.mk_append_mk, h], hb⟩
set_option maxHeartbeats 400000 in
set_option maxRecDepth 100000 in
theorem word_quoted_1 (w : World) : Calls Tryd.prog 63 #[.int .u8 34] w (StrMade (qf 34) w) := by
  go_enter Tryd.func63, Tryd.ntmps63
  go_wp2
  go_ret
  exact strMade rfl (Below.refl _ _)
set_option maxHeartbeats 400000 in
set_option maxRecDepth 100000 in
theorem word_quoted_2 (w : World) : Calls Tryd.prog 63 #[.int .u8 92] w (StrMade (qf 92) w) := by
  go_enter Tryd.func63, Tryd.ntmps63
  go_wp2
  go_ret
  exact strMade rfl (Below.refl _ _)
set_option maxHeartbeats 400000 in
set_option maxRecDepth 100000 in
theorem word_quoted_3 (w : World) : Calls Tryd.prog 63 #[.int .u8 10] w (StrMade (qf 10) w) := by
  go_enter Tryd.func63, Tryd.ntmps63
  go_wp2
  go_ret
  exact strMade rfl (Below.refl _ _)
theorem encode_small (n : Nat) (h : n < 128) : Utf8.encode (n : Int) = ⟨[UInt8.ofNat n].toArray⟩ := by
  unfold Utf8.encode
  have hv : Utf8.valid (n : Int) = true := by
    unfold Utf8.valid
    simp
    omega
  simp [hv, h]
theorem hexd_small (k : Nat) (h : k < 16) : (hexd k).toNat < 128 := by
  have := (by decide : ∀ k : Fin 16, (hexd k.val).toNat < 128) ⟨k, h⟩
  exact this
theorem conv_rune (n : Nat) (h : n < 128) (w : World) : (convert 21 9 (.int .i32 (n : Int))).run Tryd.prog w = .ok (.string ⟨[UInt8.ofNat n].toArray⟩) w := by
  rw [run_convert_int_string w 21 9 .i32 n (by rw [Tryd.underlying21]; rfl) Tryd.underlying9, encode_small n h]
theorem conv_hexd (k : Nat) (h : k < 16) (w : World) : (convert 21 9 (.int .i32 ((hexd k).toNat : Int))).run Tryd.prog w = .ok (.string ⟨[hexd k].toArray⟩) w := by
  rw [conv_rune _ (hexd_small k h)]
  simp
theorem wrap_hexd (k : Nat) (h : k < 16) : IntKind.i32.wrap ((hexd k).toNat : Int) = ((hexd k).toNat : Int) := by
  have := hexd_small k h
  rw [IntKind.wrap_i32]
  omega
theorem hex_at (k : Nat) (h : k < 16) (x : Int) (hx : x = k) (w : World) : (Instr.index 9 (.string { data := #[48, 49, 50, 51, 52, 53, 54, 55, 56, 57, 97, 98, 99, 100, 101, 102] }) (.int .u8 x)).run Tryd.prog w = .ok (.int .u8 (hexd k).toNat) w := by
  subst hx
  rw [run_index_string _ _ _ _ _ Tryd.underlying9]
  have hs : ({ data := #[48, 49, 50, 51, 52, 53, 54, 55, 56, 57, 97, 98, 99, 100, 101, 102] } : ByteArray).size = 16 := rfl
  rw [dif_pos ⟨by omega, by rw [hs]; omega⟩]
  have key := (by decide : ∀ k : Fin 16, (({ data := #[48, 49, 50, 51, 52, 53, 54, 55, 56, 57, 97, 98, 99, 100, 101, 102] } : ByteArray)[k.val]'(by have := k.isLt; rw [show ({ data := #[48, 49, 50, 51, 52, 53, 54, 55, 56, 57, 97, 98, 99, 100, 101, 102] } : ByteArray).size = 16 from rfl]; exact this)).toNat = (hexd k.val).toNat) ⟨k, h⟩
  have k2 := congrArg (fun (x : Nat) => (x : Int)) key
  simpa using k2
set_option maxHeartbeats 400000 in
set_option maxRecDepth 100000 in
theorem word_quoted_4 (n : Nat) (w : World) (h0 : 32 ≤ n) (h1 : n ≤ 126) (e1 : ((n : Int) == 34) = false) (e2 : ((n : Int) == 92) = false) (e3 : ((n : Int) == 10) = false) : Calls Tryd.prog 63 #[.int .u8 n] w (StrMade (qf n) w) := by
  have cv := conv_rune n (by omega)
  have hq := Lib.hid (show qf n = [UInt8.ofNat n] by
    simp at e1 e2 e3
    unfold qf
    rw [if_neg (by omega), if_neg (by omega), if_neg (by omega), if_pos ⟨h0, h1⟩])
  go_enter Tryd.func63, Tryd.ntmps63
  go_wp2
  go_ret
  exact strMade hq.out (Below.refl _ _)
set_option maxHeartbeats 400000 in
set_option maxRecDepth 100000 in
theorem word_quoted_5 (n : Nat) (w : World) (h0 : n ≤ 255) (h : n < 32 ∨ 126 < n) (e1 : ((n : Int) == 34) = false) (e2 : ((n : Int) == 92) = false) (e3 : ((n : Int) == 10) = false) : Calls Tryd.prog 63 #[.int .u8 n] w (StrMade (qf n) w) := by
  have hq := Lib.hid (show qf n = [92, 120, hexd (n / 16), hexd (n % 16)] by
    simp at e1 e2 e3
    unfold qf
    rw [if_neg (by omega), if_neg (by omega), if_neg (by omega), if_neg (by omega)])
  have i1 := hex_at (n / 16) (by omega) ((n : Int) / 16) (by omega)
  have i2 := hex_at (n % 16) (by omega) ((n : Int) % 16) (by omega)
  have c1 := conv_hexd (n / 16) (by omega)
  have c2 := conv_hexd (n % 16) (by omega)
  have w1 := wrap_hexd (n / 16) (by omega)
  have w2 := wrap_hexd (n % 16) (by omega)
  have a1 := u8_and15 (x := (n : Int)) (by omega) (by omega)
  rcases h with h | h
  all_goals
    go_enter Tryd.func63, Tryd.ntmps63
    go_wp2
    go_quiet (fail)
    go_wp2
    go_ret
    exact strMade_three (a := [92, 120]) (b := [hexd (n / 16)]) (c := [hexd (n % 16)]) hq.out (below_drewN (Below.refl _ _) _)
theorem word_quoted (x : Int) (w : World) (h0 : 0 ≤ x) (h1 : x ≤ 255) : Calls Tryd.prog 63 #[.int .u8 x] w (StrMade (qf x.toNat) w) := by
  obtain ⟨n, rfl⟩ := Int.eq_ofNat_of_zero_le h0
  rw [Int.toNat_natCast]
  by_cases e1 : n = 34
  · subst e1
    exact word_quoted_1 w
  · by_cases e2 : n = 92
    · subst e2
      exact word_quoted_2 w
    · by_cases e3 : n = 10
      · subst e3
        exact word_quoted_3 w
      · have f1 : ((n : Int) == 34) = false := by rw [beq_eq_false_iff_ne]; omega
        have f2 : ((n : Int) == 92) = false := by rw [beq_eq_false_iff_ne]; omega
        have f3 : ((n : Int) == 10) = false := by rw [beq_eq_false_iff_ne]; omega
        by_cases h4 : 32 ≤ n ∧ n ≤ 126
        · exact word_quoted_4 n w h4.1 h4.2 f1 f2 f3
        · exact word_quoted_5 n w (by omega) (by omega) f1 f2 f3
set_option maxHeartbeats 400000 in
set_option maxRecDepth 100000 in
theorem ref_one_1 (w : World) : Calls Tryd.prog 49 #[.int .u8 34] w (StrMade (qf 34) w) := by
  go_enter Tryd.func49, Tryd.ntmps49
  go_wp2
  go_ret
  exact strMade rfl (Below.refl _ _)
set_option maxHeartbeats 400000 in
set_option maxRecDepth 100000 in
theorem ref_one_2 (w : World) : Calls Tryd.prog 49 #[.int .u8 92] w (StrMade (qf 92) w) := by
  go_enter Tryd.func49, Tryd.ntmps49
  go_wp2
  go_ret
  exact strMade rfl (Below.refl _ _)
set_option maxHeartbeats 400000 in
set_option maxRecDepth 100000 in
theorem ref_one_3 (w : World) : Calls Tryd.prog 49 #[.int .u8 10] w (StrMade (qf 10) w) := by
  go_enter Tryd.func49, Tryd.ntmps49
  go_wp2
  go_ret
  exact strMade rfl (Below.refl _ _)
set_option maxHeartbeats 400000 in
set_option maxRecDepth 100000 in
theorem ref_one_4 (n : Nat) (w : World) (h0 : 32 ≤ n) (h1 : n ≤ 126) (e1 : ((n : Int) == 34) = false) (e2 : ((n : Int) == 92) = false) (e3 : ((n : Int) == 10) = false) : Calls Tryd.prog 49 #[.int .u8 n] w (StrMade (qf n) w) := by
  have hq := Lib.hid (show qf n = [UInt8.ofNat n] by
    simp at e1 e2 e3
    unfold qf
    rw [if_neg (by omega), if_neg (by omega), if_neg (by omega), if_pos ⟨h0, h1⟩])
  go_enter Tryd.func49, Tryd.ntmps49
  go_wp2
  rw [oneByte _ _ _ rfl]
  simp only [Result.andThen]
  rw [Oper.upon_value]
  go_wp2
  refine bodyPost_ret (v := .string ⟨[UInt8.ofNat (n : Int).toNat].toArray⟩) (by simp [results, Tryd.results49, go_sem]) rfl (strMade (by rw [hq.out, Int.toNat_natCast]) ((Below.refl _ _).alloc (Nat.le_refl _) _))
set_option maxHeartbeats 400000 in
set_option maxRecDepth 100000 in
theorem ref_one_5 (n : Nat) (w : World) (h0 : n ≤ 255) (h : n < 32 ∨ 126 < n) (e1 : ((n : Int) == 34) = false) (e2 : ((n : Int) == 92) = false) (e3 : ((n : Int) == 10) = false) : Calls Tryd.prog 49 #[.int .u8 n] w (StrMade (qf n) w) := by
  have hq := Lib.hid (show qf n = [92, 120, hexd (n / 16), hexd (n % 16)] by
    simp at e1 e2 e3
    unfold qf
    rw [if_neg (by omega), if_neg (by omega), if_neg (by omega), if_neg (by omega)])
  have i1 := hex_at (n / 16) (by omega) ((n : Int) / 16) (by omega)
  have i2 := hex_at (n % 16) (by omega) ((n : Int) % 16) (by omega)
  have c1 := twoBytes w ((hexd (n / 16)).toNat) ((hexd (n % 16)).toNat)
  rcases h with h | h
  all_goals
    go_enter Tryd.func49, Tryd.ntmps49
    go_wp2
    go_region
    all_goals
      go_wp2
      go_ret
      exact strMade_two' (a := [92, 120]) (b := [hexd (n / 16), hexd (n % 16)]) hq.out ((Below.refl _ _).alloc (Nat.le_refl _) _).drew
theorem ref_one (x : Int) (w : World) (h0 : 0 ≤ x) (h1 : x ≤ 255) : Calls Tryd.prog 49 #[.int .u8 x] w (StrMade (qf x.toNat) w) := by
  obtain ⟨n, rfl⟩ := Int.eq_ofNat_of_zero_le h0
  rw [Int.toNat_natCast]
  by_cases e1 : n = 34
  · subst e1
    exact ref_one_1 w
  · by_cases e2 : n = 92
    · subst e2
      exact ref_one_2 w
    · by_cases e3 : n = 10
      · subst e3
        exact ref_one_3 w
      · have f1 : ((n : Int) == 34) = false := by rw [beq_eq_false_iff_ne]; omega
        have f2 : ((n : Int) == 92) = false := by rw [beq_eq_false_iff_ne]; omega
        have f3 : ((n : Int) == 10) = false := by rw [beq_eq_false_iff_ne]; omega
        by_cases h4 : 32 ≤ n ∧ n ≤ 126
        · exact ref_one_4 n w h4.1 h4.2 f1 f2 f3
        · exact ref_one_5 n w (by omega) (by omega) f1 f2 f3
end
section
open Go.RowKit
def qbody (l : List UInt8) : List UInt8 := l.flatMap fun c => qf c.toNat
def qall (l : List UInt8) : List UInt8 := 34 :: (qbody l ++ [34])
theorem qf_length (n : Nat) : (qf n).length ≤ 4 := by
  unfold qf
  repeat' split
  all_goals simp
theorem qf_pos (n : Nat) : 1 ≤ (qf n).length := by
  unfold qf
  repeat' split
  all_goals simp
theorem qbody_length (l : List UInt8) : (qbody l).length ≤ 4 * l.length := by
  induction l with
  | nil => simp [qbody]
  | cons c r ih =>
    have := qf_length c.toNat
    unfold qbody at ih ⊢
    simp only [List.flatMap_cons, List.length_append, List.length_cons]
    omega
theorem qbody_step (s : ByteArray) (k : Nat) (h : k < s.size) : qbody (s.data.toList.take (k + 1)) = qbody (s.data.toList.take k) ++ qf s[k].toNat := by
  rw [take_snoc s k h]
  unfold qbody
  rw [List.flatMap_append]
  simp
theorem isBuilder_below {B b : Nat} {bs : List Value} {w w' : World} (h : Lib.IsBuilder 98 5 B b bs w) (hb : Below w.heap.size w w') : Lib.IsBuilder 98 5 B b bs w' := by
  have hg : w.grownBy w' none := ⟨hb.os, hb.tape, hb.output, hb.size, fun k hk _ => hb.block k hk⟩
  have core : ∀ p, Lib.BuilderAt 98 5 B b p bs w → Lib.BuilderAt 98 5 B b p bs w' := by
    intro p h
    have hl := h.lt
    obtain ⟨h0, v, hv, hown, hne⟩ := h
    exact ⟨h0, v, (hb.block b hl).trans hv, hown.kept hg (by cases v.ownBlock <;> simp), hne⟩
  rcases h with h | h
  · exact Or.inl (core _ h)
  · exact Or.inr (core _ h)
theorem isBuilder_new (w : World) (B : Nat) (hB : B ≤ w.heap.size) : Lib.IsBuilder 98 5 B w.heap.size [] (w.alloc (.cells #[.pointer none, .slice none 0 0] 98 (0, 0))) := by
  refine Or.inl ⟨hB, .slice none 0 0, box_at w _ _ rfl, ⟨rfl, Or.inl ⟨rfl, rfl⟩⟩, by simp [Value.ownBlock]⟩
theorem byteCells_append (a b : List UInt8) : Lib.byteCells (a ++ b) = Lib.byteCells a ++ Lib.byteCells b := by simp [Lib.byteCells]
theorem strCells_of (l : List UInt8) : Lib.strCells ⟨l.toArray⟩ = Lib.byteCells l := by simp [Lib.strCells, Lib.byteCells]
def QRel (s : ByteArray) (w : World) (k : Nat) (wr : World) : Prop := Lib.IsBuilder 98 5 w.heap.size w.heap.size (Lib.byteCells (34 :: qbody (s.data.toList.take k))) wr ∧ Below w.heap.size w wr
theorem qlen (s : ByteArray) (k : Nat) (hs : s.size ≤ 1099511627776) (hk : k ≤ s.size) : (Lib.byteCells (34 :: qbody (s.data.toList.take k))).length ≤ 4398046511105 := by
  have h1 := qbody_length (s.data.toList.take k)
  have h2 : (s.data.toList.take k).length ≤ k := List.length_take_le _ _
  rw [Lib.byteCells_length]
  simp only [List.length_cons]
  omega
theorem qstep {s : ByteArray} {w : World} {k : Nat} (h : k < s.size) {wr : World} (h1 : Lib.IsBuilder 98 5 w.heap.size w.heap.size (Lib.byteCells (34 :: qbody (s.data.toList.take k)) ++ Lib.strCells ⟨(qf s[k].toNat).toArray⟩) wr) (hb : Below w.heap.size w wr) : QRel s w (k + 1) wr := by
  refine ⟨?_, hb⟩
  rw [qbody_step s k h, ← List.cons_append, byteCells_append, ← strCells_of (qf s[k].toNat)]
  exact h1
end
section
open Go.RowKit
def hexLit : List UInt8 := [48, 49, 50, 51, 52, 53, 54, 55, 56, 57, 97, 98, 99, 100, 101, 102]
/-- What a digit of base 16 counts, or 0. -/
def DG (c : UInt8) : Nat := (max 0 (Lib.indexByte hexLit c)).toNat
theorem DG_of_fin : ∀ k : Fin 16, DG (hexd k.val) = k.val := by decide
theorem DG_of (k : Nat) (h : k < 16) : DG (hexd k) = k := DG_of_fin ⟨k, h⟩
theorem DG_small_fin : ∀ k : Fin 256, DG (UInt8.ofNat k.val) ≤ 15 := by decide +kernel
theorem DG_small (c : UInt8) : DG c ≤ 15 := by
  have := DG_small_fin ⟨c.toNat, c.toNat_lt⟩
  simpa using this
/-- The byte whose quoted form l may begin with. -/
def Mn (l : List UInt8) : Nat :=
  if l.getD 0 0 ≠ 92 ∨ l.length = 1 then (l.getD 0 0).toNat
  else if l.getD 1 0 = 110 then 10
  else if l.getD 1 0 = 120 ∧ 4 ≤ l.length then DG (l.getD 2 0) * 16 + DG (l.getD 3 0)
  else (l.getD 1 0).toNat
theorem Mn_lt (l : List UInt8) : Mn l < 256 := by
  unfold Mn
  have h0 := (l.getD 0 0).toNat_lt
  have h1 := (l.getD 1 0).toNat_lt
  have h2 := DG_small (l.getD 2 0)
  have h3 := DG_small (l.getD 3 0)
  split
  · omega
  · split
    · omega
    · split <;> omega
theorem qf_pos' (n : Nat) : 1 ≤ (qf n).length := by
  unfold qf
  repeat' split
  all_goals simp
def pre (n : Nat) (l : List UInt8) : Bool := Lib.hasPrefix l (qf n)
theorem pre_iff {n : Nat} {l : List UInt8} (h : pre n l = true) : ∃ t, l = qf n ++ t := by
  unfold pre Lib.hasPrefix at h
  rw [List.isPrefixOf_iff_prefix] at h
  obtain ⟨t, ht⟩ := h
  exact ⟨t, ht.symm⟩
theorem ofNat_ne (n : Nat) (h : n < 256) (c : Nat) (hc : c < 256) (hne : n ≠ c) : UInt8.ofNat n ≠ UInt8.ofNat c := by
  intro e
  have := congrArg UInt8.toNat e
  simp only [UInt8.toNat_ofNat'] at this
  omega
/-- At most one byte's quoted form stands at a list's head. -/
theorem pre_unique {n : Nat} {l : List UInt8} (hn : n < 256) (h : pre n l = true) : n = Mn l := by
  obtain ⟨t, rfl⟩ := pre_iff h
  unfold qf
  by_cases e1 : n = 34
  · subst e1; rfl
  · by_cases e2 : n = 92
    · subst e2; rfl
    · by_cases e3 : n = 10
      · subst e3; rfl
      · rw [if_neg e1, if_neg e2, if_neg e3]
        by_cases h4 : 32 ≤ n ∧ n ≤ 126
        · rw [if_pos h4]
          unfold Mn
          rw [if_pos (Or.inl (by simpa using ofNat_ne n hn 92 (by decide) e2))]
          simp
          omega
        · rw [if_neg h4]
          unfold Mn
          have k1 := DG_of (n / 16) (by omega)
          have k2 := DG_of (n % 16) (by omega)
          rw [if_neg (by simp), if_neg (by simp), if_pos (by simp)]
          simp [k1, k2]
          omega
/-- What is quoted, if anything is: f is enough for all bytes. -/
def unq : Nat → List UInt8 → Option (List UInt8)
  | 0, _ => some []
  | f + 1, l => if l = [] then some [] else if pre (Mn l) l = true then (unq f (l.drop (qf (Mn l)).length)).map (UInt8.ofNat (Mn l) :: ·) else none
def UnqV (l : List UInt8) : List UInt8 × Int :=
  if l.length < 2 ∨ l.getD 0 0 ≠ 34 ∨ l.getD (l.length - 1) 0 ≠ 34 then ([], 5)
  else match unq l.length ((l.drop 1).take (l.length - 2)) with
    | some r => (r, 0)
    | none => ([], 5)
theorem unq_nil (f : Nat) : unq f [] = some [] := by
  cases f <;> simp [unq]
theorem unq_yes (f : Nat) (l : List UInt8) (h : l ≠ []) (hp : pre (Mn l) l = true) : unq (f + 1) l = (unq f (l.drop (qf (Mn l)).length)).map (UInt8.ofNat (Mn l) :: ·) := by
  rw [unq, if_neg h, if_pos hp]
theorem unq_no (f : Nat) (l : List UInt8) (h : l ≠ []) (hp : pre (Mn l) l = false) : unq (f + 1) l = none := by
  rw [unq, if_neg h, if_neg (by simp [hp])]
/-- What the loop keeps: 'done' has been read, l is left. -/
def UKeep (F : Nat) (I : List UInt8) (done l : List UInt8) : Prop := ∃ f, l.length ≤ f ∧ unq F I = (unq f l).map (done ++ ·)
theorem UKeep.start (F : Nat) (I : List UInt8) (h : I.length ≤ F) : UKeep F I [] I := ⟨F, h, by simp⟩
theorem UKeep.stop {F : Nat} {I done : List UInt8} (h : UKeep F I done []) : unq F I = some done := by
  obtain ⟨f, _, h⟩ := h
  rw [h, unq_nil]
  simp
theorem UKeep.none {F : Nat} {I done l : List UInt8} (h : UKeep F I done l) (hl : l ≠ []) (hp : pre (Mn l) l = false) : unq F I = none := by
  obtain ⟨f, hf, h⟩ := h
  match f, hf, h with
  | 0, hf, _ => exact absurd (List.length_eq_zero_iff.1 (by omega)) hl
  | f + 1, _, h => rw [h, unq_no f l hl hp]; rfl
theorem UKeep.step {F : Nat} {I done l : List UInt8} (h : UKeep F I done l) (hl : l ≠ []) (hp : pre (Mn l) l = true) : UKeep F I (done ++ [UInt8.ofNat (Mn l)]) (l.drop (qf (Mn l)).length) := by
  obtain ⟨f, hf, h⟩ := h
  match f, hf, h with
  | 0, hf, _ => exact absurd (List.length_eq_zero_iff.1 (by omega)) hl
  | f + 1, hf, h =>
    refine ⟨f, ?_, ?_⟩
    · have := qf_pos' (Mn l)
      rw [List.length_drop]
      omega
    · rw [h, unq_yes f l hl hp, Option.map_map]
      congr 1
      funext x
      simp
theorem pre_length {n : Nat} {l : List UInt8} (h : pre n l = true) : (qf n).length ≤ l.length := by
  obtain ⟨t, rfl⟩ := pre_iff h
  simp
theorem unqV_form {l : List UInt8} (h : l.length < 2 ∨ l.getD 0 0 ≠ 34 ∨ l.getD (l.length - 1) 0 ≠ 34) : UnqV l = ([], 5) := by
  unfold UnqV
  rw [if_pos h]
theorem unqV_some {l r : List UInt8} (h : ¬ (l.length < 2 ∨ l.getD 0 0 ≠ 34 ∨ l.getD (l.length - 1) 0 ≠ 34)) (h2 : unq l.length ((l.drop 1).take (l.length - 2)) = some r) : UnqV l = (r, 0) := by
  unfold UnqV
  rw [if_neg h, h2]
theorem unqV_none {l : List UInt8} (h : ¬ (l.length < 2 ∨ l.getD 0 0 ≠ 34 ∨ l.getD (l.length - 1) 0 ≠ 34)) (h2 : unq l.length ((l.drop 1).take (l.length - 2)) = none) : UnqV l = ([], 5) := by
  unfold UnqV
  rw [if_neg h, h2]
end
section
open Go.RowKit
theorem indexByte_bound (l : List UInt8) (c : UInt8) : -1 ≤ Lib.indexByte l c ∧ Lib.indexByte l c < l.length := by
  induction l with
  | nil => simp [Lib.indexByte]
  | cons b r ih =>
    unfold Lib.indexByte
    simp only [List.length_cons]
    split
    · omega
    · split <;> omega
theorem toUInt8_back (c : UInt8) : ((c.toNat : Int).toNat).toUInt8 = c := by
  rw [Int.toNat_natCast]
  simp
set_option maxHeartbeats 400000 in
set_option maxRecDepth 100000 in
theorem word_digit (c : UInt8) (w : World) : Calls Tryd.prog 77 #[.int .u8 c.toNat] w fun e w' => e = .returned (.int .u8 (DG c)) ∧ w' = w := by
  have hb := indexByte_bound hexLit c
  have hl : hexLit.length = 16 := rfl
  rw [hl] at hb
  obtain ⟨hb0, hb1⟩ := hb
  have hd : ((DG c : Nat) : Int) = max 0 (Lib.indexByte hexLit c) := by
    unfold DG
    omega
  have HD := Lib.hid hd
  have hc := (Tryd.strings_IndexByte ⟨#[48, 49, 50, 51, 52, 53, 54, 55, 56, 57, 97, 98, 99, 100, 101, 102]⟩ c.toNat w)
  rw [toUInt8_back] at hc
  have HC := Lib.hid (show Calls Tryd.prog 85 #[.string ⟨#[48, 49, 50, 51, 52, 53, 54, 55, 56, 57, 97, 98, 99, 100, 101, 102]⟩, .int .u8 c.toNat] w fun e w' => e = .returned (.int .i64 (Lib.indexByte hexLit c)) ∧ w' = w from hc)
  clear hd hc hl
  generalize Lib.indexByte hexLit c = x at *
  go_enter Tryd.func77, Tryd.ntmps77
  go_wp2_with fail
  refine HC.out.mono ?_
  rintro e w' ⟨rfl, rfl⟩
  go_wp2_with fail
  go_ret
  exact ⟨ret_int HD.out.symm, rfl⟩
theorem getD_of (s : ByteArray) (k : Nat) (h : k < s.size) : s.data.toList.getD k 0 = s[k] := by
  have := drop_cons s k h
  rw [List.getD_eq_getElem?_getD, ← List.head?_drop, this]
  rfl
theorem byte_eq {c : UInt8} {n : Nat} (hn : n < 256) : ((c.toNat : Int) == (n : Int)) = true ↔ c = UInt8.ofNat n := by
  rw [beq_iff_eq, ← UInt8.toNat_inj]
  simp only [UInt8.toNat_ofNat']
  omega
theorem byte_ne {c : UInt8} {n : Nat} (hn : n < 256) : ((c.toNat : Int) == (n : Int)) = false ↔ ¬ c = UInt8.ofNat n := by
  rw [← byte_eq hn]
  simp
def IntMade (k : IntKind) (n : Int) (w : World) (e : Ending) (w' : World) : Prop := e = .returned (.int k n) ∧ Below w.heap.size w w'
theorem intMade {k : IntKind} {m n : Int} {w w' : World} (h : n = m) (hb : Below w.heap.size w w') : IntMade k n w (.returned (.int k m)) w' := by
  subst h
  exact ⟨rfl, hb⟩
theorem size_len (s : ByteArray) : s.data.toList.length = s.size := rfl
theorem mn_plain (s : ByteArray) (h : 0 < s.size) (hc : ¬ s[0] = 92 ∨ s.size = 1) : Mn s.data.toList = s[0].toNat := by
  unfold Mn
  rw [getD_of s 0 h, size_len, if_pos hc]
theorem mn_n (s : ByteArray) (h : 1 < s.size) (hc : s[0] = 92) (h1 : s[1] = 110) : Mn s.data.toList = 10 := by
  unfold Mn
  rw [getD_of s 0 (by omega), getD_of s 1 h, size_len, if_neg (by simp [hc]; omega), if_pos h1]
theorem mn_x (s : ByteArray) (h : 4 ≤ s.size) (hc : s[0] = 92) (h1 : s[1] = 120) : Mn s.data.toList = DG s[2] * 16 + DG s[3] := by
  unfold Mn
  rw [getD_of s 0 (by omega), getD_of s 1 (by omega), getD_of s 2 (by omega), getD_of s 3 (by omega), size_len, if_neg (by simp [hc]; omega), if_neg (by rw [h1]; decide), if_pos ⟨h1, h⟩]
theorem mn_else (s : ByteArray) (h : 1 < s.size) (hc : s[0] = 92) (h1 : ¬ s[1] = 110) (h2 : ¬ (s[1] = 120 ∧ 4 ≤ s.size)) : Mn s.data.toList = s[1].toNat := by
  unfold Mn
  rw [getD_of s 0 (by omega), getD_of s 1 h, size_len, if_neg (by simp [hc]; omega), if_neg h1, if_neg h2]
theorem or_u8 (a b : Nat) (ha : a ≤ 15) (hb : b ≤ 15) : bits BinOp.or IntKind.u8 ((a : Int) * 16) (b : Int) = ((a * 16 + b : Nat) : Int) := by
  have := bits_join .u8 8 (by decide) wraps_u8 4 ((a : Int) * 16) b (by omega) (by omega) (by omega) (by omega) (by omega) (by omega)
  rw [this]
  omega
theorem index_at (s : ByteArray) (k : Nat) (h : k < s.size) (x : Int) (hx : x = k) (w : World) : (Instr.index 9 (.string s) (.int .i64 x)).run Tryd.prog w = .ok (.int .u8 s[k].toNat) w := by
  subst hx
  rw [run_index_string _ _ _ _ _ Tryd.underlying9, dif_pos ⟨by omega, by omega⟩]
  simp
set_option maxHeartbeats 400000 in
set_option maxRecDepth 100000 in
theorem word_meant (s : ByteArray) (w : World) (h : 0 < s.size) (hs : s.size ≤ maxLen) : Calls Tryd.prog 62 #[.string s] w (IntMade .u8 (Mn s.data.toList) w) := by
  unfold maxLen at hs
  by_cases hc : s[0] = 92
  · have e0 : ((s[0].toNat : Int) == 92) = true := (byte_eq (n := 92) (by decide)).2 hc
    have e0' : ((s[0].toNat : Int) != 92) = false := by rw [bne, e0]; rfl
    by_cases h1 : s.size = 1
    · have HM := Lib.hid (mn_plain s h (Or.inr h1))
      have f1 : ((s.size : Int) == 1) = true := by rw [beq_iff_eq]; omega
      clear hc h1
      go_enter Tryd.func62, Tryd.ntmps62
      go_wp2
      go_ret
      exact intMade (congrArg Int.ofNat HM.out) (Below.refl _ _)
    · have f1 : ((s.size : Int) == 1) = false := by rw [beq_eq_false_iff_ne]; omega
      have h2 : 1 < s.size := by omega
      by_cases hn : s[1] = 110
      · have HM := Lib.hid (mn_n s h2 hc hn)
        have e1 : ((s[1].toNat : Int) == 110) = true := (byte_eq (n := 110) (by decide)).2 hn
        clear hc hn
        go_enter Tryd.func62, Tryd.ntmps62
        go_wp2
        go_ret
        exact intMade (congrArg Int.ofNat HM.out) (Below.refl _ _)
      · have e1 : ((s[1].toNat : Int) == 110) = false := (byte_ne (n := 110) (by decide)).2 hn
        by_cases hx : s[1] = 120
        · have e2 : ((s[1].toNat : Int) == 120) = true := (byte_eq (n := 120) (by decide)).2 hx
          by_cases h4 : 4 ≤ s.size
          · have HM := Lib.hid (mn_x s h4 hc hx)
            have d2 := DG_small s[2]
            have d3 := DG_small s[3]
            have ho := or_u8 (DG s[2]) (DG s[3]) d2 d3
            have hw : IntKind.u8.wrap ((DG s[2] : Int) * 16) = (DG s[2] : Int) * 16 := by rw [IntKind.wrap_u8]; omega
            have i2 := index_at s 2 (by omega) 2 rfl
            have i3 := index_at s 3 (by omega) 3 rfl
            clear hc hn hx
            go_enter Tryd.func62, Tryd.ntmps62
            go_wp2_with fail
            go_quiet ((go_at_call 77; exact Calls.quiet_of_same (word_digit _ _)))
            go_wp2_with fail
            go_ret
            exact intMade (congrArg Int.ofNat HM.out) (below_drewN (Below.refl _ _) _)
          · have HM := Lib.hid (mn_else s h2 hc hn (fun hh => h4 hh.2))
            clear hc hn hx
            go_enter Tryd.func62, Tryd.ntmps62
            go_wp2
            go_ret
            exact intMade (congrArg Int.ofNat HM.out) (Below.refl _ _)
        · have HM := Lib.hid (mn_else s h2 hc hn (fun hh => hx hh.1))
          have e2 : ((s[1].toNat : Int) == 120) = false := (byte_ne (n := 120) (by decide)).2 hx
          clear hc hn hx
          go_enter Tryd.func62, Tryd.ntmps62
          go_wp2
          go_ret
          exact intMade (congrArg Int.ofNat HM.out) (Below.refl _ _)
  · have HM := Lib.hid (mn_plain s h (Or.inl hc))
    have e0 : ((s[0].toNat : Int) == 92) = false := (byte_ne (n := 92) (by decide)).2 hc
    have e0' : ((s[0].toNat : Int) != 92) = true := by rw [bne, e0]; rfl
    clear hc
    go_enter Tryd.func62, Tryd.ntmps62
    go_wp2
    go_ret
    exact intMade (congrArg Int.ofNat HM.out) (Below.refl _ _)
end
section
open Go.RowKit
/-- A text and an error are returned, and what was there stands. -/
def StrErr (l : List UInt8) (x : Int) (w : World) (e : Ending) (w' : World) : Prop := e = .returned (.tuple #[.string ⟨l.toArray⟩, .int .i64 x]) ∧ Below w.heap.size w w'
theorem strErr {v : List UInt8 × Int} {l : List UInt8} {x : Int} {w w' : World} (h : v = (l, x)) (hb : Below w.heap.size w w') : StrErr v.1 v.2 w (.returned (.tuple #[.string ⟨l.toArray⟩, .int .i64 x])) w' := by
  subst h
  exact ⟨rfl, hb⟩
theorem hasPrefix_pre (t : ByteArray) (n : Nat) (b : Bool) (h : pre n t.data.toList = b) (w : World) : Calls Tryd.prog 56 #[.string t, .string ⟨(qf n).toArray⟩] w fun e w' => e = .returned (.bool b) ∧ w = w' := by
  refine (Tryd.strings_HasPrefix t ⟨(qf n).toArray⟩ w).mono ?_
  rintro e w' ⟨rfl, rfl⟩
  exact ⟨ret_bool h, rfl⟩
def strLen : Value → Nat
  | .string s => s.size
  | _ => 0
/-- What the loop keeps: 'done' has been written, t is left. -/
def URel (s : ByteArray) (w : World) (t : ByteArray) (done : List UInt8) (wr : World) : Prop :=
  t.size + done.length ≤ s.size ∧ UKeep s.data.toList.length ((s.data.toList.drop 1).take (s.data.toList.length - 2)) done t.data.toList ∧ Lib.IsBuilder 98 5 w.heap.size w.heap.size (Lib.byteCells done) wr ∧ Below w.heap.size w wr
theorem URel.start (s : ByteArray) (w : World) (h2 : ¬ s.size < 2) : URel s w (s.extract 1 (s.size - 1)) [] (w.alloc (.cells #[.pointer none, .slice none 0 0] 98 (0, 0))) := by
  have hd : (s.extract 1 (s.size - 1)).data.toList = (s.data.toList.drop 1).take (s.data.toList.length - 2) := by
    rw [Lib.extract_data, size_len]
    congr 1
  have hl : (s.extract 1 (s.size - 1)).size = s.size - 2 := by
    rw [ByteArray.size_extract]
    omega
  refine ⟨by rw [hl]; simp, ?_, isBuilder_new w _ (Nat.le_refl _), (Below.refl _ _).alloc (Nat.le_refl _) _⟩
  rw [hd]
  refine UKeep.start _ _ ?_
  rw [← hd, size_len, size_len, hl]
  omega
theorem list_ne (t : ByteArray) (h : 0 < t.size) : t.data.toList ≠ [] := by
  intro e
  have : t.data.toList.length = t.size := rfl
  rw [e] at this
  simp at this
  omega
theorem byteCells_one (n : Nat) (h : n < 256) : [Value.int .u8 (n : Int)] = Lib.byteCells [UInt8.ofNat n] := by
  simp [Lib.byteCells]
  omega
theorem URel.next {s : ByteArray} {w : World} {t : ByteArray} {done : List UInt8} {wr w' : World} (h : URel s w t done wr) (ht : 0 < t.size) (hp : pre (Mn t.data.toList) t.data.toList = true)
    (hb : Lib.IsBuilder 98 5 w.heap.size w.heap.size (Lib.byteCells done ++ [Value.int .u8 (Mn t.data.toList : Int)]) w') (hw : Below w.heap.size w w') : URel s w (t.extract (qf (Mn t.data.toList)).length t.size) (done ++ [UInt8.ofNat (Mn t.data.toList)]) w' := by
  have hl := pre_length hp
  have h1 := qf_pos (Mn t.data.toList)
  rw [size_len] at hl
  refine ⟨?_, ?_, ?_, hw⟩
  · have := h.1
    rw [ByteArray.size_extract, List.length_append]
    simp only [List.length_singleton]
    omega
  · rw [Lib.extract_to_end]
    exact h.2.1.step (list_ne t ht) hp
  · rw [byteCells_append, ← byteCells_one _ (Mn_lt _)]
    exact hb
set_option maxHeartbeats 1000000 in
set_option maxRecDepth 100000 in
theorem word_Unquote (s : ByteArray) (w : World) (hs : s.size ≤ 1099511627776) : Calls Tryd.prog 55 #[.string s] w (StrErr (UnqV s.data.toList).1 (UnqV s.data.toList).2 w) := by
  by_cases h2 : s.size < 2
  · have HV := Lib.hid (unqV_form (l := s.data.toList) (Or.inl h2))
    go_enter Tryd.func55, Tryd.ntmps55
    go_wp2
    go_ret2
    exact strErr HV.out (Below.refl _ _)
  · have h0 : 0 < s.size := by omega
    have hz : s.size - 1 < s.size := by omega
    have il := index_at s (s.size - 1) hz ((s.size : Int) - 1) (by omega)
    by_cases hc : s[0] = 34
    · have e0 : ((s[0].toNat : Int) == 34) = true := (byte_eq (n := 34) (by decide)).2 hc
      have e0' : ((s[0].toNat : Int) != 34) = false := by rw [bne, e0]; rfl
      by_cases hd : s[s.size - 1] = 34
      · have e1 : ((s[s.size - 1].toNat : Int) == 34) = true := (byte_eq (n := 34) (by decide)).2 hd
        have e1' : ((s[s.size - 1].toNat : Int) != 34) = false := by rw [bne, e1]; rfl
        have hok : ¬ (s.data.toList.length < 2 ∨ s.data.toList.getD 0 0 ≠ 34 ∨ s.data.toList.getD (s.data.toList.length - 1) 0 ≠ 34) := by
          rw [size_len, getD_of s 0 h0, getD_of s (s.size - 1) hz, hc, hd]
          simp
          omega
        have HOK := Lib.hid hok
        clear hok hc hd
        go_enter Tryd.func55, Tryd.ntmps55
        go_wp2_with fail
        go_loopw [5] (fun r wr => ∃ (t : ByteArray) (done : List UInt8), r = .string t ∧ URel s w t done wr) (fun r _ => strLen r)
        case atStart => exact ⟨_, [], rfl, URel.start s w h2⟩
        case round =>
          obtain ⟨t, done, rfl, hrel⟩ := hrel
          have HR := Lib.hid hrel
          have hsz := hrel.1
          clear hrel
          by_cases ht : 0 < t.size
          · have e2 : t.toList.isEmpty = false := by rw [list_of, List.isEmpty_eq_false_iff]; exact list_ne t ht
            have hn := Mn_lt t.data.toList
            go_wp2_with fail
            refine (word_meant t _ ht (by unfold maxLen; omega)).mono ?_
            rintro e w1 ⟨rfl, hb1⟩
            have HB1 := Lib.hid hb1
            clear hb1
            go_wp2_with fail
            refine (word_quoted _ _ (by omega) (by omega)).mono ?_
            rintro e w2 ⟨rfl, hb2⟩
            rw [Int.toNat_natCast]
            have HB2 := Lib.hid (HB1.out.trans (hb2.mono HB1.out.size))
            clear hb2 HB1
            by_cases hp : pre (Mn t.data.toList) t.data.toList = true
            · have HP := Lib.hid hp
              clear hp
              go_wp2_with fail
              refine (hasPrefix_pre t _ true HP.out _).mono ?_
              rintro e w' ⟨rfl, rfl⟩
              go_wp2_with fail
              refine (build_WriteByte w.heap.size w.heap.size _ _ _ (isBuilder_below HR.out.2.2.1 HB2.out) (by rw [Lib.byteCells_length]; omega) (Nat.le_trans HR.out.2.2.2.size HB2.out.size)).mono ?_
              rintro e w3 ⟨rfl, h3, hb3⟩
              have HN := Lib.hid (HR.out.next ht HP.out h3 ((HR.out.2.2.2.trans (HB2.out.mono HR.out.2.2.2.size)).trans hb3))
              have hl := pre_length HP.out
              have hq := qf_pos (Mn t.data.toList)
              rw [size_len] at hl
              clear h3 hb3
              go_wp2_with fail
              go_roundw
              case rel => exact ⟨_, _, rfl, HN.out⟩
              case measure =>
                simp only [strLen]
                rw [ByteArray.size_extract]
                omega
            · have hp' : pre (Mn t.data.toList) t.data.toList = false := by simpa using hp
              have HV := Lib.hid (unqV_none HOK.out (HR.out.2.1.none (list_ne t ht) hp'))
              have HP := Lib.hid hp'
              clear hp hp'
              go_wp2_with fail
              refine (hasPrefix_pre t _ false HP.out _).mono ?_
              rintro e w' ⟨rfl, rfl⟩
              go_wp2_with fail
              go_ret2
              exact strErr HV.out (HR.out.2.2.2.trans (HB2.out.mono HR.out.2.2.2.size))
          · have e2 : t.toList.isEmpty = true := by rw [list_of, empty_of t ht]; rfl
            have hk := HR.out.2.1
            rw [empty_of t ht] at hk
            have HV := Lib.hid (unqV_some HOK.out hk.stop)
            clear hk
            go_wp2_with fail
            refine (Tryd.Builder_String_any w.heap.size w.heap.size _ _ HR.out.2.2.1 HR.out.2.2.2.size).mono ?_
            rintro e w3 ⟨rfl, hb3⟩
            have HB3 := Lib.hid (HR.out.2.2.2.trans hb3)
            clear hb3
            go_wp2_with fail
            go_ret2
            exact strErr HV.out HB3.out
      · have HV := Lib.hid (unqV_form (l := s.data.toList) (Or.inr (Or.inr (by rw [size_len, getD_of s (s.size - 1) hz]; exact hd))))
        have e1 : ((s[s.size - 1].toNat : Int) == 34) = false := (byte_ne (n := 34) (by decide)).2 hd
        have e1' : ((s[s.size - 1].toNat : Int) != 34) = true := by rw [bne, e1]; rfl
        clear hc hd
        go_enter Tryd.func55, Tryd.ntmps55
        go_wp2
        go_ret2
        exact strErr HV.out (Below.refl _ _)
    · have HV := Lib.hid (unqV_form (l := s.data.toList) (Or.inr (Or.inl (by rw [getD_of s 0 h0]; exact hc))))
      have e0 : ((s[0].toNat : Int) == 34) = false := (byte_ne (n := 34) (by decide)).2 hc
      have e0' : ((s[0].toNat : Int) != 34) = true := by rw [bne, e0]; rfl
      clear hc
      go_enter Tryd.func55, Tryd.ntmps55
      go_wp2
      go_ret2
      exact strErr HV.out (Below.refl _ _)
end
section
open Go.RowKit
theorem strOfNums_bytes (l : List UInt8) : strOfNums (l.map fun c => (c.toNat : Int)) = ⟨l.toArray⟩ := by
  apply ByteArray.ext
  apply Array.toList_inj.1
  rw [strOfNums_data, List.map_map]
  have : ((fun n : Int => UInt8.ofNat n.toNat) ∘ fun c : UInt8 => (c.toNat : Int)) = id := by
    funext c
    simp
  rw [this, List.map_id]
/-- A slice of bytes that the call owns, read as a text. -/
theorem own_string {B : Nat} {v : Value} {l : List UInt8} {w : World} (h : w.ownsRow B 5 1 v l.length (Lib.byteCells l)) : (convert 81 9 v).run Tryd.prog w = .ok (.string ⟨l.toArray⟩) w := by
  rcases h.2 with ⟨rfl, h0⟩ | ⟨g, cap, cur, rfl, _⟩
  · have : l = [] := List.length_eq_zero_iff.1 h0
    subst this
    exact run_convert_bytes_nil w 81 5 Tryd.underlying81 Tryd.underlying5 0 0 9 Tryd.underlying9
  · rw [← strOfNums_bytes]
    refine run_convert_bytes_arg w 81 5 Tryd.underlying81 Tryd.underlying5 g 0 l.length cap (l.map fun c => (c.toNat : Int)) (by simp) ?_ 9 Tryd.underlying9
    intro i hi
    have := h.cells (g := g) rfl i (.int .u8 (l[i].toNat)) (by simp [Lib.byteCells, hi])
    rw [Lib.add_plain, Nat.zero_add] at this
    rw [Nat.zero_add, this]
    simp [List.getD, hi]
theorem own_built (w : World) (B : Nat) (c : UInt8) (hB : B ≤ w.heap.size) : (w.alloc (.cells #[.int .u8 c.toNat] 5 (0, 0))).ownsRow B 5 1 (.slice (some ⟨w.heap.size, 0, none⟩) 1 1) [c].length (Lib.byteCells [c]) :=
  ⟨rfl, Or.inr ⟨w.heap.size, 1, _, rfl, hB, box_at w _ _ rfl, Nat.le_refl _, by decide, rfl, rfl⟩⟩
def ORel (l : List UInt8) (w : World) (v : Value) (wr : World) : Prop := wr.ownsRow w.heap.size 5 1 v l.length (Lib.byteCells l) ∧ Below w.heap.size w wr
theorem ORel.below {l : List UInt8} {w : World} {v : Value} {wr w' : World} (h : ORel l w v wr) (hb : Below wr.heap.size wr w') : ORel l w v w' :=
  ⟨h.1.kept (row := none) ⟨hb.os, hb.tape, hb.output, hb.size, fun k hk _ => hb.block k hk⟩ (by cases v.ownBlock <;> simp), h.2.trans (hb.mono h.2.size)⟩
theorem ORel.grow {l m : List UInt8} {w : World} {v v' : Value} {wr w' : World} (h : ORel l w v wr) (hown : w'.ownsRow w.heap.size 5 1 v' (l.length + m.length) (Lib.byteCells l ++ Lib.byteCells m)) (hg : wr.grownBy w' v.ownBlock) : ORel (l ++ m) w v' w' := by
  refine ⟨?_, h.2.grown hg h.2.size (fun k hk => (h.1.lt k hk).1)⟩
  rw [List.length_append, byteCells_append]
  exact hown
theorem olen (s : ByteArray) (k : Nat) (hs : s.size ≤ 1099511627776) (hk : k ≤ s.size) : (34 :: qbody (s.data.toList.take k)).length ≤ 4398046511105 := by
  have h1 := qbody_length (s.data.toList.take k)
  have h2 : (s.data.toList.take k).length ≤ k := List.length_take_le _ _
  simp only [List.length_cons]
  omega
theorem ostep {s : ByteArray} {k : Nat} (h : k < s.size) : 34 :: qbody (s.data.toList.take (k + 1)) = (34 :: qbody (s.data.toList.take k)) ++ qf s[k].toNat := by
  rw [qbody_step s k h, List.cons_append]
set_option maxHeartbeats 1000000 in
set_option maxRecDepth 100000 in
theorem ref_Quote (s : ByteArray) (w : World) (hs : s.size ≤ 1099511627776) : Calls Tryd.prog 31 #[.string s] w (StrMade (qall s.data.toList) w) := by
  obtain ⟨i0, hi, hz0, hz1, hz2⟩ := info_parts infoByte
  have hs2 := hs
  have h0 : Hid (ORel (34 :: qbody (s.data.toList.take 0)) w (.slice (some ⟨w.heap.size, 0, none⟩) 1 1) (w.alloc (.cells #[.int .u8 34] 5 (0, 0)))) := Lib.hid ⟨own_built w w.heap.size 34 (Nat.le_refl _), (Below.refl w.heap.size w).alloc (Nat.le_refl _) _⟩
  go_enter Tryd.func31, Tryd.ntmps31
  go_wp2_with fail
  go_loopw [3, 4] (fun o i wr => ∃ k : Nat, k ≤ s.size ∧ i = .int .i64 k ∧ ORel (34 :: qbody (s.data.toList.take k)) w o wr) (fun _ i _ => s.size - (intOf i).toNat)
  case atStart => exact ⟨0, Nat.zero_le _, rfl, h0.out⟩
  case round =>
    rename_i o _
    obtain ⟨k, hk, rfl, hrel⟩ := hrel
    have HR := Lib.hid hrel
    clear hrel h0
    by_cases hlt : k < s.size
    · have hc := s[k].toNat_lt
      go_wp2_with fail
      refine (ref_one _ _ (by omega) (by omega)).mono ?_
      rintro e w2 ⟨rfl, hb2⟩
      rw [Int.toNat_natCast]
      have H2 := Lib.hid (HR.out.below hb2)
      clear hb2
      have h1 := olen s k hs (by omega)
      have h2 := qf_length s[k].toNat
      have h3 : (⟨(qf s[k].toNat).toArray⟩ : ByteArray).size = (qf s[k].toNat).length := rfl
      have h4 : (⟨(qf s[k].toNat).toArray⟩ : ByteArray).size + (34 :: qbody (s.data.toList.take k)).length ≤ 140737488355328 := by omega
      have H4 := Lib.hid h4
      clear h1 h2 h3 h4
      go_wp2_with (at_builtin; refine Lib.wpList_append_own_string _ rfl _ _ 81 9 rfl w.heap.size 5 i0 Tryd.underlying81 Tryd.underlying9 hi hz0 hz1 hz2 _ _ _ rfl H2.out.1 _ rfl ?c3 ?c4 ?c5 ?_)
      case c3 => have := H4.out; unfold maxLen; omega
      case c4 => have := H4.out; omega
      case c5 => exact H2.out.2.size
      intro v' w3 hown' hgrow _
      rw [strCells_of] at hown'
      have HN := Lib.hid (H2.out.grow hown' hgrow)
      rw [← ostep hlt] at HN
      clear hown' hgrow
      go_wp2_with fail
      go_roundw
      case rel => exact ⟨k + 1, by omega, by go_num, HN.out⟩
      case measure => simp [intOf]; omega
    · obtain rfl : k = s.size := by omega
      have HL := Lib.hid (olen s s.size hs (Nat.le_refl _))
      rw [take_end] at HL HR
      go_wp2_with (at_builtin; refine wpList_append_own _ rfl _ _ 81 rfl w.heap.size 5 i0 (.int .u8 0) 1 1 Tryd.underlying81 hi hz0 hz1 hz2 rfl (by decide) _ _ _ rfl (HR.out.1.alloc _) ⟨wr.heap.size, 0, none⟩ 1 1 [.int .u8 34] rfl rfl ?c1 ?c2 ?c3 ?c4 ?c5 ?_)
      case c1 =>
        intro j u hj
        match j, hj with
        | 0, hj => simp at hj; subst hj; simp [Addr.add]
      case c2 => intro u hu; simp at hu; subst hu; rfl
      case c3 => have := HL.out; unfold maxLen; omega
      case c4 => have := HL.out; omega
      case c5 => have := HR.out.2.size; simp; omega
      intro v' w3 hown' hgrow _
      have HN : Hid (ORel (qall s.data.toList) w v' w3) := Lib.hid ((HR.out.below ((Below.refl _ _).alloc (Nat.le_refl _) _)).grow (m := [34]) hown' hgrow)
      have hcv := own_string HN.out.1
      clear hown' hgrow
      go_wp2_with fail
      go_ret
      exact ⟨rfl, HN.out.2⟩
end
section
open Go.RowKit
/-- What the outer loop keeps: 'done' lies in the slice v, t is left. -/
def VRel (s : ByteArray) (w : World) (t : ByteArray) (done : List UInt8) (v : Value) (wr : World) : Prop :=
  t.size + done.length ≤ s.size ∧ UKeep s.data.toList.length ((s.data.toList.drop 1).take (s.data.toList.length - 2)) done t.data.toList ∧ ORel done w v wr
theorem VRel.below {s : ByteArray} {w : World} {t : ByteArray} {done : List UInt8} {v : Value} {wr w' : World} (h : VRel s w t done v wr) (hb : Below wr.heap.size wr w') : VRel s w t done v w' :=
  ⟨h.1, h.2.1, h.2.2.below hb⟩
theorem own_none (w : World) (B : Nat) (hB : B ≤ w.heap.size) : (w.alloc (.cells #[] 5 (0, 0))).ownsRow B 5 1 (.slice (some ⟨w.heap.size, 0, none⟩) 0 0) ([] : List UInt8).length (Lib.byteCells []) :=
  ⟨rfl, Or.inr ⟨w.heap.size, 0, _, rfl, hB, box_at w _ _ rfl, Nat.le_refl _, by decide, rfl, rfl⟩⟩
theorem VRel.start (s : ByteArray) (w : World) (h2 : ¬ s.size < 2) : VRel s w (s.extract 1 (s.size - 1)) [] (.slice (some ⟨w.heap.size, 0, none⟩) 0 0) (w.alloc (.cells #[] 5 (0, 0))) := by
  have h := URel.start s w h2
  exact ⟨h.1, h.2.1, own_none w _ (Nat.le_refl _), (Below.refl _ _).alloc (Nat.le_refl _) _⟩
/-- What the inner loop keeps: nothing found below k, or found, and less is left than before. -/
def VIn (s : ByteArray) (w : World) (t : ByteArray) (done : List UInt8) (v i o f c : Value) (wr : World) : Prop :=
  ∃ k : Nat, k ≤ 256 ∧ c = .int .i64 k ∧ ((f = .bool false ∧ i = .string t ∧ o = v ∧ VRel s w t done v wr ∧ ∀ j, j < k → pre j t.data.toList = false) ∨
    (f = .bool true ∧ ∃ (t' : ByteArray) (done' : List UInt8), i = .string t' ∧ VRel s w t' done' o wr ∧ t'.size < t.size))
theorem VRel.next {s : ByteArray} {w : World} {t : ByteArray} {done : List UInt8} {v v' : Value} {wr w' : World} {k : Nat} (h : VRel s w t done v wr) (ht : 0 < t.size) (hk : k < 256) (hp : pre k t.data.toList = true) (ho : ORel (done ++ [UInt8.ofNat k]) w v' w') :
    VRel s w (t.extract (qf k).length t.size) (done ++ [UInt8.ofNat k]) v' w' := by
  have hu := pre_unique hk hp
  have hl := pre_length hp
  have h1 := qf_pos k
  rw [size_len] at hl
  refine ⟨?_, ?_, ho⟩
  · have := h.1
    rw [ByteArray.size_extract, List.length_append]
    simp only [List.length_singleton]
    omega
  · rw [Lib.extract_to_end]
    rw [hu] at hp ⊢
    exact h.2.1.step (list_ne t ht) hp
theorem pre_test (t : ByteArray) (k : Nat) (hl : (qf k).length ≤ t.size) : ((t.extract 0 (qf k).length).toList == qf k) = pre k t.data.toList := by
  have h := Lib.hasPrefix_raw t ⟨(qf k).toArray⟩
  rw [ByteArray.toList_mk (qf k)] at h
  have e : (⟨(qf k).toArray⟩ : ByteArray).size = (qf k).length := rfl
  rw [e, decide_eq_true hl, Bool.true_and] at h
  exact h
theorem pre_long (t : ByteArray) (k : Nat) (hl : ¬ (qf k).length ≤ t.size) : pre k t.data.toList = false := by
  rcases h : pre k t.data.toList with _ | _
  · rfl
  · exact absurd (pre_length h) hl
end
section
open Go.RowKit
/-- strconv's table of powers of ten is as its initialiser lays it. -/
def Tab (w : World) : Prop := Lib.TabIs Tryd.prog w "internal/strconv.uint64pow10" .u64 Lib.pow10Tab
theorem itoa_digit (n : Int) (h0 : 0 ≤ n) (h1 : n < 10) : Lib.itoa n = [UInt8.ofNat (48 + n).toNat] := by
  unfold Lib.itoa
  rw [if_neg (by omega), Lib.decDigits, dif_pos (by omega)]
  congr 2
  omega
theorem itoa_minus_digit (n : Int) (h0 : n < 0) (h1 : -10 < n) : Lib.itoa n = 45 :: Lib.itoa (- n) := by
  unfold Lib.itoa
  rw [if_pos h0, if_neg (by omega)]
  congr 2
  omega
theorem itoa_pos (n : Int) (h0 : 10 ≤ n) : Lib.itoa n = Lib.itoa (n / 10) ++ Lib.itoa (n % 10) := by
  unfold Lib.itoa
  rw [if_neg (by omega), if_neg (by omega), if_neg (by omega), Lib.decDigits, dif_neg (by omega)]
  have e1 : n.toNat / 10 = (n / 10).toNat := by omega
  rw [e1]
  congr 1
  rw [Lib.decDigits, dif_pos (by omega)]
  congr 2
  omega
theorem tdiv10 (n : Int) (h : n < 0) : n.tdiv 10 = - ((-n) / 10) := by
  have h2 := Int.neg_tdiv (-n) 10
  rw [Int.neg_neg] at h2
  rw [h2, Int.tdiv_eq_ediv_of_nonneg (by omega)]
theorem tmod10 (n : Int) (h : n < 0) : n.tmod 10 = - ((-n) % 10) := by
  rw [Int.tmod_def, tdiv10 n h]
  omega
theorem itoa_neg (n : Int) (h0 : n ≤ -10) : Lib.itoa n = Lib.itoa (n.tdiv 10) ++ Lib.itoa (- n.tmod 10) := by
  rw [tdiv10 n (by omega), tmod10 n (by omega)]
  unfold Lib.itoa
  rw [if_pos (by omega), if_pos (by omega), if_neg (by omega), Lib.decDigits, dif_neg (by omega)]
  have e1 : n.natAbs / 10 = (-(-n / 10)).natAbs := by omega
  rw [e1, List.cons_append]
  congr 2
  rw [Lib.decDigits, dif_pos (by omega)]
  congr 2
  omega
theorem itoa_short (n : Int) (h0 : -9223372036854775808 ≤ n) (h1 : n ≤ 9223372036854775807) : (Lib.itoa n).length ≤ 21 := Lib.itoa_length_le n h0 h1
theorem strMade_two {l a b : List UInt8} {w w' : World} (h : l = a ++ b) (hb : Below w.heap.size w w') : StrMade l w (.returned (.string (⟨a.toArray⟩ ++ ⟨b.toArray⟩))) w' :=
  ⟨by rw [ByteArray.mk_append_mk, h], hb⟩
def Size (n : Int) : Nat := if n < 0 then 2 * n.natAbs + 1 else 2 * n.natAbs
theorem size_neg {n : Int} {k : Nat} (hs : n < 0) (h : Size n < k + 1) : Size (-n) < k := by
  unfold Size at h ⊢
  rw [if_pos hs] at h
  rw [if_neg (by omega)]
  omega
theorem size_less {n m : Int} {k : Nat} (h : Size n < k + 1) (hm : m.natAbs < n.natAbs) : Size m < k := by
  unfold Size at h ⊢
  split <;> split at h <;> omega
set_option maxHeartbeats 1000000 in
set_option maxRecDepth 100000 in
theorem ref_Text (k : Nat) : ∀ (n : Int) (w : World), Size n < k → -9223372036854775808 ≤ n → n ≤ 9223372036854775807 → Calls Tryd.prog 30 #[.int .i64 n] w (StrMade (Lib.itoa n) w) := by
  induction k with
  | zero => intro n w hk; omega
  | succ k ih =>
    intro n w hk h0 h1
    have IH := Lib.hid ih
    clear ih
    by_cases hd : 0 ≤ n ∧ n < 10
    · obtain ⟨hd0, hd1⟩ := hd
      have HD := Lib.hid (itoa_digit n hd0 hd1)
      go_enter Tryd.func30, Tryd.ntmps30
      go_wp2_with fail
      rw [oneByte _ _ _ rfl]
      simp only [Result.andThen]
      rw [Oper.upon_value]
      go_wp2_with fail
      refine bodyPost_ret (v := .string ⟨[UInt8.ofNat (48 + n).toNat].toArray⟩) (by simp [results, Tryd.results30, go_sem]) rfl ⟨by rw [HD.out], (Below.refl _ _).alloc (Nat.le_refl _) _⟩
    · by_cases hs : n < 0 ∧ -10 < n
      · obtain ⟨hs0, hs1⟩ := hs
        have HD := Lib.hid (itoa_minus_digit n hs0 hs1)
        have HL := Lib.hid (itoa_short (-n) (by omega) (by omega))
        go_enter Tryd.func30, Tryd.ntmps30
        go_wp2_with fail
        refine (IH.out (-n) _ (size_neg hs0 hk) (by omega) (by omega)).mono ?_
        rintro e w1 ⟨rfl, hb1⟩
        have HB1 := Lib.hid hb1
        clear hb1
        have hsum : ¬ (9223372036854775807 < 1 + (Lib.itoa (-n)).length) := by
          have := HL.out
          omega
        go_wp2_with fail
        go_ret
        exact strMade_two (a := [45]) HD.out HB1.out
      · by_cases hn : n < 0
        · have h10 : n ≤ -10 := by omega
          have HD := Lib.hid (itoa_neg n h10)
          have q1 : Size (n.tdiv 10) < k := size_less hk (by rw [tdiv10 n (by omega)]; omega)
          have q2 : -9223372036854775808 ≤ n.tdiv 10 := by rw [tdiv10 n (by omega)]; omega
          have q3 : n.tdiv 10 ≤ 9223372036854775807 := by rw [tdiv10 n (by omega)]; omega
          have r1 : -9 ≤ n.tmod 10 := by rw [tmod10 n (by omega)]; omega
          have r2 : n.tmod 10 ≤ 0 := by rw [tmod10 n (by omega)]; omega
          have HL := Lib.hid (itoa_short _ q2 q3)
          have HM := Lib.hid (itoa_short (- n.tmod 10) (by omega) (by omega))
          clear hd hs
          go_enter Tryd.func30, Tryd.ntmps30
          go_wp2_with fail
          refine (IH.out (n.tdiv 10) _ q1 q2 q3).mono ?_
          rintro e w1 ⟨rfl, hb1⟩
          have HB1 := Lib.hid hb1
          clear hb1
          go_wp2_with fail
          refine (IH.out (- n.tmod 10) _ (size_less hk (by omega)) (by omega) (by omega)).mono ?_
          rintro e w2 ⟨rfl, hb2⟩
          have HB2 := Lib.hid (HB1.out.trans (hb2.mono HB1.out.size))
          clear hb2
          have hsum : ¬ (9223372036854775807 < (Lib.itoa (n.tdiv 10)).length + (Lib.itoa (-n.tmod 10)).length) := by
            have := HL.out
            have := HM.out
            omega
          go_wp2_with fail
          go_ret
          exact strMade_two HD.out HB2.out
        · have h10 : 10 ≤ n := by omega
          have HD := Lib.hid (itoa_pos n h10)
          have HL := Lib.hid (itoa_short (n / 10) (by omega) (by omega))
          have HM := Lib.hid (itoa_short (n % 10) (by omega) (by omega))
          clear hd hs
          go_enter Tryd.func30, Tryd.ntmps30
          go_wp2_with fail
          refine (IH.out (n / 10) _ (size_less hk (by omega)) (by omega) (by omega)).mono ?_
          rintro e w1 ⟨rfl, hb1⟩
          have HB1 := Lib.hid hb1
          clear hb1
          go_wp2_with fail
          refine (IH.out (n % 10) _ (size_less hk (by omega)) (by omega) (by omega)).mono ?_
          rintro e w2 ⟨rfl, hb2⟩
          have HB2 := Lib.hid (HB1.out.trans (hb2.mono HB1.out.size))
          clear hb2
          have hsum : ¬ (9223372036854775807 < (Lib.itoa (n / 10)).length + (Lib.itoa (n % 10)).length) := by
            have := HL.out
            have := HM.out
            omega
          go_wp2_with fail
          go_ret
          exact strMade_two HD.out HB2.out
end
section
open Go.RowKit
theorem pre_self (n : Nat) (t : List UInt8) : pre n (qf n ++ t) = true := by
  unfold pre Lib.hasPrefix
  rw [List.isPrefixOf_iff_prefix]
  exact ⟨t, rfl⟩
theorem qbody_cons (c : UInt8) (r : List UInt8) : qbody (c :: r) = qf c.toNat ++ qbody r := by
  unfold qbody
  rw [List.flatMap_cons]
theorem unq_back : ∀ (l : List UInt8) (f : Nat), l.length ≤ f → unq f (qbody l) = some l
  | [], f, _ => unq_nil f
  | c :: r, 0, h => by simp at h
  | c :: r, f + 1, h => by
    have hM := pre_unique c.toNat_lt (pre_self c.toNat (qbody r))
    rw [qbody_cons]
    have hne : qf c.toNat ++ qbody r ≠ [] := by
      intro e
      have h1 := qf_pos c.toNat
      rw [(List.append_eq_nil_iff.1 e).1] at h1
      simp at h1
    rw [unq_yes f _ hne (by rw [← hM]; exact pre_self _ _), ← hM, List.drop_left, unq_back r f (by simpa using h)]
    simp
theorem qbody_long (l : List UInt8) : l.length ≤ (qbody l).length := by
  induction l with
  | nil => simp
  | cons c r ih =>
    have := qf_pos c.toNat
    rw [qbody_cons]
    simp
    omega
theorem unqV_back (l : List UInt8) : UnqV (qall l) = (l, 0) := by
  have hlen : (qall l).length = (qbody l).length + 2 := by simp [qall]
  refine unqV_some ?_ ?_
  · rw [hlen]
    have e1 : (qall l).getD 0 0 = 34 := rfl
    have e2 : (qall l).getD ((qbody l).length + 2 - 1) 0 = 34 := by
      unfold qall
      simp
    rw [e1, e2]
    simp
  · have e : ((qall l).drop 1).take ((qall l).length - 2) = qbody l := by
      rw [hlen]
      unfold qall
      simp
    rw [e]
    exact unq_back l _ (by have := qbody_long l; omega)
theorem readGo_append (a b : List UInt8) : ∀ m : Int, readGo m (a ++ b) = (readGo m a).bind fun k => readGo k b := by
  induction a with
  | nil => intro m; rfl
  | cons c r ih =>
    intro m
    rw [List.cons_append, readGo, readGo]
    split
    · rfl
    · exact ih _
theorem dig_val (k : Nat) (h : k < 10) : ((UInt8.ofNat (48 + k)).toNat : Int) - 48 = k := by
  simp only [UInt8.toNat_ofNat']
  omega
theorem readGo_dec (k : Nat) : ∀ u : Nat, u < k → u ≤ 4611686018427387903 → readGo 0 (Lib.decDigits u) = some (u : Int) := by
  induction k with
  | zero => intro u h; omega
  | succ k ih =>
    intro u hk hu
    by_cases h : u < 10
    · rw [Lib.decDigits, dif_pos h, readGo, dig_val u h, if_neg (by omega)]
      simp [readGo]
    · rw [Lib.decDigits, dif_neg h, readGo_append, ih (u / 10) (by omega) (by omega)]
      show readGo ((u / 10 : Nat) : Int) [UInt8.ofNat (48 + u % 10)] = _
      rw [readGo, dig_val (u % 10) (by omega), if_neg (by omega), readGo]
      congr 1
      omega
theorem isDig_dec (k : Nat) (h : k < 10) : isDig (UInt8.ofNat (48 + k)) = true := by
  have := (by decide : ∀ k : Fin 10, isDig (UInt8.ofNat (48 + k.val)) = true) ⟨k, h⟩
  exact this
theorem dec_all (k : Nat) : ∀ u : Nat, u < k → (Lib.decDigits u).all isDig = true := by
  induction k with
  | zero => intro u h; omega
  | succ k ih =>
    intro u hk
    by_cases h : u < 10
    · rw [Lib.decDigits, dif_pos h]
      rw [List.all_cons, isDig_dec u h]
      rfl
    · rw [Lib.decDigits, dif_neg h, List.all_append, ih (u / 10) (by omega)]
      rw [List.all_cons, isDig_dec (u % 10) (by omega)]
      rfl
theorem dec_head (k : Nat) : ∀ u : Nat, u < k → 1 ≤ u → ∃ c r, Lib.decDigits u = c :: r ∧ c ≠ 48 := by
  induction k with
  | zero => intro u h; omega
  | succ k ih =>
    intro u hk hu
    by_cases h : u < 10
    · rw [Lib.decDigits, dif_pos h]
      have := (by decide : ∀ k : Fin 10, 1 ≤ k.val → UInt8.ofNat (48 + k.val) ≠ 48) ⟨u, h⟩ hu
      exact ⟨_, [], rfl, this⟩
    · obtain ⟨c, r, e, hc⟩ := ih (u / 10) (by omega) (by omega)
      rw [Lib.decDigits, dif_neg h, e]
      exact ⟨c, _, rfl, hc⟩
theorem isNum_dec (u : Nat) : isNum (Lib.decDigits u) = true := by
  unfold isNum
  rw [dec_all (u + 1) u (by omega)]
  by_cases h : u = 0
  · subst h
    rw [Lib.decDigits, dif_pos (by decide)]
    decide
  · obtain ⟨c, r, e, hc⟩ := dec_head (u + 1) u (by omega) (by omega)
    rw [e]
    simp [hc]
theorem readV_itoa (n : Int) (h0 : 0 ≤ n) (h1 : n ≤ 4611686018427387903) : ReadV (Lib.itoa n) = (n, 0) := by
  unfold Lib.itoa
  rw [if_neg (by omega)]
  have := readV_num (isNum_dec n.toNat) (readGo_dec (n.toNat + 1) n.toNat (by omega) (by omega))
  rw [this]
  congr 1
  omega
theorem itoa_sign (n : Int) (h : n < 0) : ∃ r, Lib.itoa n = 45 :: r := by
  unfold Lib.itoa
  rw [if_pos h]
  exact ⟨_, rfl⟩
theorem mask31 (a : Int) : bits BinOp.and IntKind.i64 a 2147483647 = a % 2147483648 := by
  unfold bits
  simp only [BitVec.toNat_and]
  have h1 : (BitVec.ofInt IntKind.i64.bits 2147483647).toNat = 2 ^ 31 - 1 := by decide
  have h2 : ((BitVec.ofInt IntKind.i64.bits a).toNat : Int) = a % 18446744073709551616 := by
    rw [BitVec.toNat_ofInt]
    have : ((2 ^ IntKind.i64.bits : Nat) : Int) = 18446744073709551616 := by decide
    rw [this]
    omega
  rw [h1, Nat.and_two_pow_sub_one_eq_mod, IntKind.wrap_i64]
  have h3 : (((BitVec.ofInt IntKind.i64.bits a).toNat % 2 ^ 31 : Nat) : Int) = a % 2147483648 := by
    rw [Int.natCast_emod, h2]
    simp
  rw [h3]
  omega
theorem bytes_back (s : ByteArray) : (⟨s.data.toList.toArray⟩ : ByteArray) = s := by simp
end
end Go.Proofs.YtecpldnjpapalaaDoor
