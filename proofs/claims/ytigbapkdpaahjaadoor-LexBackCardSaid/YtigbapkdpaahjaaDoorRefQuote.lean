/-
  The walk of the reference's Quote: the quoted forms of a text's bytes, between quotation marks. Condition: the text has at most 2^40 bytes.
-/
import Derived.Test.YtigbapkdpaahjaaDoorQuote
import Derived.Lib.ItoaMem
namespace Go.Proofs.YtigbapkdpaahjaaDoor
open Go.RowKit
theorem strOfNums_bytes (l : List UInt8) : strOfNums (l.map fun c => (c.toNat : Int)) = ⟨l.toArray⟩ := by
  apply ByteArray.ext
  apply Array.toList_inj.1
  rw [strOfNums_data, List.map_map]
  have : ((fun n : Int => UInt8.ofNat n.toNat) ∘ fun c : UInt8 => (c.toNat : Int)) = id := by
    funext c
    simp
  rw [this, List.map_id]
/-- A slice of bytes that the call owns, read as a text. -/
theorem own_string {B : Nat} {v : Value} {l : List UInt8} {w : World} (h : w.ownsRow B 5 1 v l.length (Lib.byteCells l)) : (convert 32 9 v).run Tryd.prog w = .ok (.string ⟨l.toArray⟩) w := by
  rcases h.2 with ⟨rfl, h0⟩ | ⟨g, cap, cur, rfl, _⟩
  · have : l = [] := List.length_eq_zero_iff.1 h0
    subst this
    exact run_convert_bytes_nil w 32 5 Tryd.underlying32 Tryd.underlying5 0 0 9 Tryd.underlying9
  · rw [← strOfNums_bytes]
    refine run_convert_bytes_arg w 32 5 Tryd.underlying32 Tryd.underlying5 g 0 l.length cap (l.map fun c => (c.toNat : Int)) (by simp) ?_ 9 Tryd.underlying9
    intro i hi
    have := h.cells (g := g) rfl i (.int .u8 (l[i].toNat)) (by simp [Lib.byteCells, hi])
    rw [Lib.add_plain, Nat.zero_add] at this
    rw [Nat.zero_add, this]
    simp [List.getD, hi]
theorem own_built (w : World) (B : Nat) (c : UInt8) (hB : B ≤ w.heap.size) : (w.alloc (.cells #[.int .u8 c.toNat] 5 (0, 0))).ownsRow B 5 1 (.slice (some ⟨w.heap.size, 0, none⟩) 1 1) [c].length (Lib.byteCells [c]) :=
  ⟨rfl, Or.inr ⟨w.heap.size, 1, _, rfl, hB, box_at w _ _ rfl, Nat.le_refl _, by decide, rfl, rfl⟩⟩
def ORel (l : List UInt8) (w : World) (v : Value) (wr : World) : Prop := wr.ownsRow w.heap.size 5 1 v l.length (Lib.byteCells l) ∧ Below w.heap.size w wr
theorem ORel.below {l : List UInt8} {w : World} {v : Value} {wr w' : World} (h : ORel l w v wr) (hb : Below wr.heap.size wr w') : ORel l w v w' :=
  ⟨h.1.kept (row := none) ⟨hb.os, hb.tape, hb.output, hb.size, fun k hk _ => hb.block k hk⟩ (by cases v.ownBlock <;> simp), h.2.trans (hb.mono h.2.size)⟩
theorem ORel.grow {l m : List UInt8} {w : World} {v v' : Value} {wr w' : World} (h : ORel l w v wr) (hown : w'.ownsRow w.heap.size 5 1 v' (l.length + m.length) (Lib.byteCells l ++ Lib.byteCells m)) (hg : wr.grownBy w' v.ownBlock) : ORel (l ++ m) w v' w' := by
  refine ⟨?_, h.2.grown hg h.2.size (fun k hk => (h.1.lt k hk).1)⟩
  rw [List.length_append, byteCells_append]
  exact hown
theorem olen (s : ByteArray) (k : Nat) (hs : s.size ≤ 1099511627776) (hk : k ≤ s.size) : (34 :: qbody (s.data.toList.take k)).length ≤ 4398046511105 := by
  have h1 := qbody_length (s.data.toList.take k)
  have h2 : (s.data.toList.take k).length ≤ k := List.length_take_le _ _
  simp only [List.length_cons]
  omega
theorem ostep {s : ByteArray} {k : Nat} (h : k < s.size) : 34 :: qbody (s.data.toList.take (k + 1)) = (34 :: qbody (s.data.toList.take k)) ++ qf s[k].toNat := by
  rw [qbody_step s k h, List.cons_append]
set_option maxHeartbeats 1000000 in
set_option maxRecDepth 100000 in
theorem ref_Quote (s : ByteArray) (w : World) (hs : s.size ≤ 1099511627776) : Calls Tryd.prog 18 #[.string s] w (StrMade (qall s.data.toList) w) := by
  obtain ⟨i0, hi, hz0, hz1, hz2⟩ := info_parts infoByte
  have hs2 := hs
  have h0 : Hid (ORel (34 :: qbody (s.data.toList.take 0)) w (.slice (some ⟨w.heap.size, 0, none⟩) 1 1) (w.alloc (.cells #[.int .u8 34] 5 (0, 0)))) := Lib.hid ⟨own_built w w.heap.size 34 (Nat.le_refl _), (Below.refl w.heap.size w).alloc (Nat.le_refl _) _⟩
  go_enter Tryd.func18, Tryd.ntmps18
  go_wp2_with fail
  go_loopw [3, 4] (fun o i wr => ∃ k : Nat, k ≤ s.size ∧ i = .int .i64 k ∧ ORel (34 :: qbody (s.data.toList.take k)) w o wr) (fun _ i _ => s.size - (intOf i).toNat)
  case atStart => exact ⟨0, Nat.zero_le _, rfl, h0.out⟩
  case round =>
    rename_i o _
    obtain ⟨k, hk, rfl, hrel⟩ := hrel
    have HR := Lib.hid hrel
    clear hrel h0
    by_cases hlt : k < s.size
    · have hc := s[k].toNat_lt
      go_wp2_with fail
      refine (ref_one _ _ (by omega) (by omega)).mono ?_
      rintro e w2 ⟨rfl, hb2⟩
      rw [Int.toNat_natCast]
      have H2 := Lib.hid (HR.out.below hb2)
      clear hb2
      have h1 := olen s k hs (by omega)
      have h2 := qf_length s[k].toNat
      have h3 : (⟨(qf s[k].toNat).toArray⟩ : ByteArray).size = (qf s[k].toNat).length := rfl
      have h4 : (⟨(qf s[k].toNat).toArray⟩ : ByteArray).size + (34 :: qbody (s.data.toList.take k)).length ≤ 140737488355328 := by omega
      have H4 := Lib.hid h4
      clear h1 h2 h3 h4
      go_wp2_with (at_builtin; refine Lib.wpList_append_own_string _ rfl _ _ 32 9 rfl w.heap.size 5 i0 Tryd.underlying32 Tryd.underlying9 hi hz0 hz1 hz2 _ _ _ rfl H2.out.1 _ rfl ?c3 ?c4 ?c5 ?_)
      case c3 => have := H4.out; unfold maxLen; omega
      case c4 => have := H4.out; omega
      case c5 => exact H2.out.2.size
      intro v' w3 hown' hgrow _
      rw [strCells_of] at hown'
      have HN := Lib.hid (H2.out.grow hown' hgrow)
      rw [← ostep hlt] at HN
      clear hown' hgrow
      go_wp2_with fail
      go_roundw
      case rel => exact ⟨k + 1, by omega, by go_num, HN.out⟩
      case measure => simp [intOf]; omega
    · obtain rfl : k = s.size := by omega
      have HL := Lib.hid (olen s s.size hs (Nat.le_refl _))
      rw [take_end] at HL HR
      go_wp2_with (at_builtin; refine wpList_append_own _ rfl _ _ 32 rfl w.heap.size 5 i0 (.int .u8 0) 1 1 Tryd.underlying32 hi hz0 hz1 hz2 rfl (by decide) _ _ _ rfl (HR.out.1.alloc _) ⟨wr.heap.size, 0, none⟩ 1 1 [.int .u8 34] rfl rfl ?c1 ?c2 ?c3 ?c4 ?c5 ?_)
      case c1 =>
        intro j u hj
        match j, hj with
        | 0, hj => simp at hj; subst hj; simp [Addr.add]
      case c2 => intro u hu; simp at hu; subst hu; rfl
      case c3 => have := HL.out; unfold maxLen; omega
      case c4 => have := HL.out; omega
      case c5 => have := HR.out.2.size; simp; omega
      intro v' w3 hown' hgrow _
      have HN : Hid (ORel (qall s.data.toList) w v' w3) := Lib.hid ((HR.out.below ((Below.refl _ _).alloc (Nat.le_refl _) _)).grow (m := [34]) hown' hgrow)
      have hcv := own_string HN.out.1
      clear hown' hgrow
      go_wp2_with fail
      go_ret
      exact ⟨rfl, HN.out.2⟩
end Go.Proofs.YtigbapkdpaahjaaDoor
