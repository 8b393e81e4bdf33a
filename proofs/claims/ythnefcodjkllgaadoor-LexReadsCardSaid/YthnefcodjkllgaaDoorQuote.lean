/-
  The walks of Quote of both sides: the quoted forms of a text's bytes, between quotation marks. Condition: the text has at most 2^40 bytes.
-/
import Derived.Test.YthnefcodjkllgaaDoorQuoted
import Derived.Deep.LoopGhost
namespace Go.Proofs.YthnefcodjkllgaaDoor
open Go.RowKit
def qbody (l : List UInt8) : List UInt8 := l.flatMap fun c => qf c.toNat
def qall (l : List UInt8) : List UInt8 := 34 :: (qbody l ++ [34])
theorem qf_length (n : Nat) : (qf n).length ≤ 4 := by
  unfold qf
  repeat' split
  all_goals simp
theorem qf_pos (n : Nat) : 1 ≤ (qf n).length := by
  unfold qf
  repeat' split
  all_goals simp
theorem qbody_length (l : List UInt8) : (qbody l).length ≤ 4 * l.length := by
  induction l with
  | nil => simp [qbody]
  | cons c r ih =>
    have := qf_length c.toNat
    unfold qbody at ih ⊢
    simp only [List.flatMap_cons, List.length_append, List.length_cons]
    omega
theorem qbody_step (s : ByteArray) (k : Nat) (h : k < s.size) : qbody (s.data.toList.take (k + 1)) = qbody (s.data.toList.take k) ++ qf s[k].toNat := by
  rw [take_snoc s k h]
  unfold qbody
  rw [List.flatMap_append]
  simp
theorem isBuilder_below {B b : Nat} {bs : List Value} {w w' : World} (h : Lib.IsBuilder 71 5 B b bs w) (hb : Below w.heap.size w w') : Lib.IsBuilder 71 5 B b bs w' := by
  have hg : w.grownBy w' none := ⟨hb.os, hb.tape, hb.output, hb.size, fun k hk _ => hb.block k hk⟩
  have core : ∀ p, Lib.BuilderAt 71 5 B b p bs w → Lib.BuilderAt 71 5 B b p bs w' := by
    intro p h
    have hl := h.lt
    obtain ⟨h0, v, hv, hown, hne⟩ := h
    exact ⟨h0, v, (hb.block b hl).trans hv, hown.kept hg (by cases v.ownBlock <;> simp), hne⟩
  rcases h with h | h
  · exact Or.inl (core _ h)
  · exact Or.inr (core _ h)
theorem isBuilder_new (w : World) (B : Nat) (hB : B ≤ w.heap.size) : Lib.IsBuilder 71 5 B w.heap.size [] (w.alloc (.cells #[.pointer none, .slice none 0 0] 71 (0, 0))) := by
  refine Or.inl ⟨hB, .slice none 0 0, box_at w _ _ rfl, ⟨rfl, Or.inl ⟨rfl, rfl⟩⟩, by simp [Value.ownBlock]⟩
theorem byteCells_append (a b : List UInt8) : Lib.byteCells (a ++ b) = Lib.byteCells a ++ Lib.byteCells b := by simp [Lib.byteCells]
theorem strCells_of (l : List UInt8) : Lib.strCells ⟨l.toArray⟩ = Lib.byteCells l := by simp [Lib.strCells, Lib.byteCells]
def QRel (s : ByteArray) (w : World) (k : Nat) (wr : World) : Prop := Lib.IsBuilder 71 5 w.heap.size w.heap.size (Lib.byteCells (34 :: qbody (s.data.toList.take k))) wr ∧ Below w.heap.size w wr
theorem qlen (s : ByteArray) (k : Nat) (hs : s.size ≤ 1099511627776) (hk : k ≤ s.size) : (Lib.byteCells (34 :: qbody (s.data.toList.take k))).length ≤ 4398046511105 := by
  have h1 := qbody_length (s.data.toList.take k)
  have h2 : (s.data.toList.take k).length ≤ k := List.length_take_le _ _
  rw [Lib.byteCells_length]
  simp only [List.length_cons]
  omega
theorem qstep {s : ByteArray} {w : World} {k : Nat} (h : k < s.size) {wr : World} (h1 : Lib.IsBuilder 71 5 w.heap.size w.heap.size (Lib.byteCells (34 :: qbody (s.data.toList.take k)) ++ Lib.strCells ⟨(qf s[k].toNat).toArray⟩) wr) (hb : Below w.heap.size w wr) : QRel s w (k + 1) wr := by
  refine ⟨?_, hb⟩
  rw [qbody_step s k h, ← List.cons_append, byteCells_append, ← strCells_of (qf s[k].toNat)]
  exact h1
set_option maxHeartbeats 1000000 in
set_option maxRecDepth 100000 in
theorem word_Quote (s : ByteArray) (w : World) (hs : s.size ≤ 1099511627776) : Calls Tryd.prog 21 #[.string s] w (StrMade (qall s.data.toList) w) := by
  have h0 := Lib.hid (isBuilder_new w w.heap.size (Nat.le_refl _))
  have hB0 := Lib.hid ((Below.refl w.heap.size w).alloc (Nat.le_refl _) (.cells #[.pointer none, .slice none 0 0] 71 (0, 0)))
  go_enter Tryd.func21, Tryd.ntmps21
  go_wp2_with fail
  refine (build_WriteByte w.heap.size w.heap.size [] 34 _ h0.out (by simp) (by simp)).mono ?_
  rintro e w1 ⟨rfl, h1, hb1⟩
  have H1 : Hid (QRel s w 0 w1) := Lib.hid ⟨h1, hB0.out.trans hb1⟩
  clear h0 hB0 h1 hb1
  go_wp2_with fail
  go_loopw [8] (fun i wr => ∃ k : Nat, k ≤ s.size ∧ i = .int .i64 k ∧ QRel s w k wr) (fun i _ => s.size - (intOf i).toNat)
  case atStart => exact ⟨0, Nat.zero_le _, rfl, H1.out⟩
  case round =>
    obtain ⟨k, hk, rfl, hrel⟩ := hrel
    have HR := Lib.hid hrel
    clear hrel H1
    by_cases hlt : k < s.size
    · have hc := s[k].toNat_lt
      go_wp2_with fail
      refine (word_quoted _ _ (by omega) (by omega)).mono ?_
      rintro e w2 ⟨rfl, hb2⟩
      rw [Int.toNat_natCast]
      have HB2 := Lib.hid hb2
      clear hb2
      go_wp2_with fail
      refine (build_WriteString w.heap.size w.heap.size _ _ _ (isBuilder_below HR.out.1 HB2.out) ?_ (Nat.le_trans HR.out.2.size HB2.out.size)).mono ?_
      · have h1 := qlen s k hs (by omega)
        have h2 := qf_length s[k].toNat
        have h3 : (⟨(qf s[k].toNat).toArray⟩ : ByteArray).size = (qf s[k].toNat).length := rfl
        omega
      · rintro e w3 ⟨rfl, h3, hb3⟩
        have HN := Lib.hid (qstep hlt h3 ((HR.out.2.trans (HB2.out.mono HR.out.2.size)).trans hb3))
        clear h3 hb3
        go_wp2_with fail
        go_roundw
        case rel => exact ⟨k + 1, by omega, by go_num, HN.out⟩
        case measure => simp [intOf]; omega
    · obtain rfl : k = s.size := by omega
      have HL := Lib.hid (qlen s s.size hs (Nat.le_refl _))
      rw [take_end] at HL
      unfold QRel at HR
      rw [take_end] at HR
      go_wp2_with fail
      refine (build_WriteByte w.heap.size w.heap.size _ 34 _ HR.out.1 (by have := HL.out; omega) HR.out.2.size).mono ?_
      rintro e w2 ⟨rfl, h2, hb2⟩
      have hcells : Lib.byteCells (34 :: qbody s.data.toList) ++ [Value.int .u8 34] = Lib.byteCells (qall s.data.toList) := by
        unfold qall
        rw [← List.cons_append, byteCells_append]
        rfl
      rw [hcells] at h2
      have H2 := Lib.hid h2
      have HB2 := Lib.hid (HR.out.2.trans hb2)
      clear h2 hb2 hcells
      go_wp2_with fail
      refine (Tryd.Builder_String_any w.heap.size w.heap.size _ _ H2.out HB2.out.size).mono ?_
      rintro e w3 ⟨rfl, hb3⟩
      have HB3 := Lib.hid (HB2.out.trans hb3)
      go_wp2_with fail
      go_ret
      exact ⟨rfl, HB3.out⟩
end Go.Proofs.YthnefcodjkllgaaDoor
