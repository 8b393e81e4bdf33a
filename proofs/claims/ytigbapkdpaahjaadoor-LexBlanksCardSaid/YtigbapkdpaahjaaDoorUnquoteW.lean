/-
  The walk of the program's Unquote: what the plain function UnqV says. Condition: the text has at most 2^40 bytes.
-/
import Derived.Test.YtigbapkdpaahjaaDoorUnquote
import Derived.Lib.IndexBytes
namespace Go.Proofs.YtigbapkdpaahjaaDoor
open Go.RowKit
/-- A text and an error are returned, and what was there stands. -/
def StrErr (l : List UInt8) (x : Int) (w : World) (e : Ending) (w' : World) : Prop := e = .returned (.tuple #[.string ⟨l.toArray⟩, .int .i64 x]) ∧ Below w.heap.size w w'
theorem strErr {v : List UInt8 × Int} {l : List UInt8} {x : Int} {w w' : World} (h : v = (l, x)) (hb : Below w.heap.size w w') : StrErr v.1 v.2 w (.returned (.tuple #[.string ⟨l.toArray⟩, .int .i64 x])) w' := by
  subst h
  exact ⟨rfl, hb⟩
theorem hasPrefix_pre (t : ByteArray) (n : Nat) (b : Bool) (h : pre n t.data.toList = b) (w : World) : Calls Tryd.prog 42 #[.string t, .string ⟨(qf n).toArray⟩] w fun e w' => e = .returned (.bool b) ∧ w = w' := by
  refine (Tryd.strings_HasPrefix t ⟨(qf n).toArray⟩ w).mono ?_
  rintro e w' ⟨rfl, rfl⟩
  exact ⟨ret_bool h, rfl⟩
def strLen : Value → Nat
  | .string s => s.size
  | _ => 0
/-- What the loop keeps: 'done' has been written, t is left. -/
def URel (s : ByteArray) (w : World) (t : ByteArray) (done : List UInt8) (wr : World) : Prop :=
  t.size + done.length ≤ s.size ∧ UKeep s.data.toList.length ((s.data.toList.drop 1).take (s.data.toList.length - 2)) done t.data.toList ∧ Lib.IsBuilder 56 5 w.heap.size w.heap.size (Lib.byteCells done) wr ∧ Below w.heap.size w wr
theorem URel.start (s : ByteArray) (w : World) (h2 : ¬ s.size < 2) : URel s w (s.extract 1 (s.size - 1)) [] (w.alloc (.cells #[.pointer none, .slice none 0 0] 56 (0, 0))) := by
  have hd : (s.extract 1 (s.size - 1)).data.toList = (s.data.toList.drop 1).take (s.data.toList.length - 2) := by
    rw [Lib.extract_data, size_len]
    congr 1
  have hl : (s.extract 1 (s.size - 1)).size = s.size - 2 := by
    rw [ByteArray.size_extract]
    omega
  refine ⟨by rw [hl]; simp, ?_, isBuilder_new w _ (Nat.le_refl _), (Below.refl _ _).alloc (Nat.le_refl _) _⟩
  rw [hd]
  refine UKeep.start _ _ ?_
  rw [← hd, size_len, size_len, hl]
  omega
theorem list_ne (t : ByteArray) (h : 0 < t.size) : t.data.toList ≠ [] := by
  intro e
  have : t.data.toList.length = t.size := rfl
  rw [e] at this
  simp at this
  omega
theorem byteCells_one (n : Nat) (h : n < 256) : [Value.int .u8 (n : Int)] = Lib.byteCells [UInt8.ofNat n] := by
  simp [Lib.byteCells]
  omega
theorem URel.next {s : ByteArray} {w : World} {t : ByteArray} {done : List UInt8} {wr w' : World} (h : URel s w t done wr) (ht : 0 < t.size) (hp : pre (Mn t.data.toList) t.data.toList = true)
    (hb : Lib.IsBuilder 56 5 w.heap.size w.heap.size (Lib.byteCells done ++ [Value.int .u8 (Mn t.data.toList : Int)]) w') (hw : Below w.heap.size w w') : URel s w (t.extract (qf (Mn t.data.toList)).length t.size) (done ++ [UInt8.ofNat (Mn t.data.toList)]) w' := by
  have hl := pre_length hp
  have h1 := qf_pos (Mn t.data.toList)
  rw [size_len] at hl
  refine ⟨?_, ?_, ?_, hw⟩
  · have := h.1
    rw [ByteArray.size_extract, List.length_append]
    simp only [List.length_singleton]
    omega
  · rw [Lib.extract_to_end]
    exact h.2.1.step (list_ne t ht) hp
  · rw [byteCells_append, ← byteCells_one _ (Mn_lt _)]
    exact hb
set_option maxHeartbeats 1000000 in
set_option maxRecDepth 100000 in
theorem word_Unquote (s : ByteArray) (w : World) (hs : s.size ≤ 1099511627776) : Calls Tryd.prog 41 #[.string s] w (StrErr (UnqV s.data.toList).1 (UnqV s.data.toList).2 w) := by
  by_cases h2 : s.size < 2
  · have HV := Lib.hid (unqV_form (l := s.data.toList) (Or.inl h2))
    go_enter Tryd.func41, Tryd.ntmps41
    go_wp2
    go_ret2
    exact strErr HV.out (Below.refl _ _)
  · have h0 : 0 < s.size := by omega
    have hz : s.size - 1 < s.size := by omega
    have il := index_at s (s.size - 1) hz ((s.size : Int) - 1) (by omega)
    by_cases hc : s[0] = 34
    · have e0 : ((s[0].toNat : Int) == 34) = true := (byte_eq (n := 34) (by decide)).2 hc
      have e0' : ((s[0].toNat : Int) != 34) = false := by rw [bne, e0]; rfl
      by_cases hd : s[s.size - 1] = 34
      · have e1 : ((s[s.size - 1].toNat : Int) == 34) = true := (byte_eq (n := 34) (by decide)).2 hd
        have e1' : ((s[s.size - 1].toNat : Int) != 34) = false := by rw [bne, e1]; rfl
        have hok : ¬ (s.data.toList.length < 2 ∨ s.data.toList.getD 0 0 ≠ 34 ∨ s.data.toList.getD (s.data.toList.length - 1) 0 ≠ 34) := by
          rw [size_len, getD_of s 0 h0, getD_of s (s.size - 1) hz, hc, hd]
          simp
          omega
        have HOK := Lib.hid hok
        clear hok hc hd
        go_enter Tryd.func41, Tryd.ntmps41
        go_wp2_with fail
        go_loopw [5] (fun r wr => ∃ (t : ByteArray) (done : List UInt8), r = .string t ∧ URel s w t done wr) (fun r _ => strLen r)
        case atStart => exact ⟨_, [], rfl, URel.start s w h2⟩
        case round =>
          obtain ⟨t, done, rfl, hrel⟩ := hrel
          have HR := Lib.hid hrel
          have hsz := hrel.1
          clear hrel
          by_cases ht : 0 < t.size
          · have e2 : t.toList.isEmpty = false := by rw [list_of, List.isEmpty_eq_false_iff]; exact list_ne t ht
            have hn := Mn_lt t.data.toList
            go_wp2_with fail
            refine (word_meant t _ ht (by unfold maxLen; omega)).mono ?_
            rintro e w1 ⟨rfl, hb1⟩
            have HB1 := Lib.hid hb1
            clear hb1
            go_wp2_with fail
            refine (word_quoted _ _ (by omega) (by omega)).mono ?_
            rintro e w2 ⟨rfl, hb2⟩
            rw [Int.toNat_natCast]
            have HB2 := Lib.hid (HB1.out.trans (hb2.mono HB1.out.size))
            clear hb2 HB1
            by_cases hp : pre (Mn t.data.toList) t.data.toList = true
            · have HP := Lib.hid hp
              clear hp
              go_wp2_with fail
              refine (hasPrefix_pre t _ true HP.out _).mono ?_
              rintro e w' ⟨rfl, rfl⟩
              go_wp2_with fail
              refine (build_WriteByte w.heap.size w.heap.size _ _ _ (isBuilder_below HR.out.2.2.1 HB2.out) (by rw [Lib.byteCells_length]; omega) (Nat.le_trans HR.out.2.2.2.size HB2.out.size)).mono ?_
              rintro e w3 ⟨rfl, h3, hb3⟩
              have HN := Lib.hid (HR.out.next ht HP.out h3 ((HR.out.2.2.2.trans (HB2.out.mono HR.out.2.2.2.size)).trans hb3))
              have hl := pre_length HP.out
              have hq := qf_pos (Mn t.data.toList)
              rw [size_len] at hl
              clear h3 hb3
              go_wp2_with fail
              go_roundw
              case rel => exact ⟨_, _, rfl, HN.out⟩
              case measure =>
                simp only [strLen]
                rw [ByteArray.size_extract]
                omega
            · have hp' : pre (Mn t.data.toList) t.data.toList = false := by simpa using hp
              have HV := Lib.hid (unqV_none HOK.out (HR.out.2.1.none (list_ne t ht) hp'))
              have HP := Lib.hid hp'
              clear hp hp'
              go_wp2_with fail
              refine (hasPrefix_pre t _ false HP.out _).mono ?_
              rintro e w' ⟨rfl, rfl⟩
              go_wp2_with fail
              go_ret2
              exact strErr HV.out (HR.out.2.2.2.trans (HB2.out.mono HR.out.2.2.2.size))
          · have e2 : t.toList.isEmpty = true := by rw [list_of, empty_of t ht]; rfl
            have hk := HR.out.2.1
            rw [empty_of t ht] at hk
            have HV := Lib.hid (unqV_some HOK.out hk.stop)
            clear hk
            go_wp2_with fail
            refine (Tryd.Builder_String_any w.heap.size w.heap.size _ _ HR.out.2.2.1 HR.out.2.2.2.size).mono ?_
            rintro e w3 ⟨rfl, hb3⟩
            have HB3 := Lib.hid (HR.out.2.2.2.trans hb3)
            clear hb3
            go_wp2_with fail
            go_ret2
            exact strErr HV.out HB3.out
      · have HV := Lib.hid (unqV_form (l := s.data.toList) (Or.inr (Or.inr (by rw [size_len, getD_of s (s.size - 1) hz]; exact hd))))
        have e1 : ((s[s.size - 1].toNat : Int) == 34) = false := (byte_ne (n := 34) (by decide)).2 hd
        have e1' : ((s[s.size - 1].toNat : Int) != 34) = true := by rw [bne, e1]; rfl
        clear hc hd
        go_enter Tryd.func41, Tryd.ntmps41
        go_wp2
        go_ret2
        exact strErr HV.out (Below.refl _ _)
    · have HV := Lib.hid (unqV_form (l := s.data.toList) (Or.inr (Or.inl (by rw [getD_of s 0 h0]; exact hc))))
      have e0 : ((s[0].toNat : Int) == 34) = false := (byte_ne (n := 34) (by decide)).2 hc
      have e0' : ((s[0].toNat : Int) != 34) = true := by rw [bne, e0]; rfl
      clear hc
      go_enter Tryd.func41, Tryd.ntmps41
      go_wp2
      go_ret2
      exact strErr HV.out (Below.refl _ _)
end Go.Proofs.YtigbapkdpaahjaaDoor
