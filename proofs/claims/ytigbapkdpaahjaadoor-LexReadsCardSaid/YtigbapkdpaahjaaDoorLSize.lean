/-
  Lex: the walks of nameSize and quotedSize: how many bytes a name and a quoted text have, at every text, valid UTF-8 or not.
-/
import Derived.Test.YtigbapkdpaahjaaDoorLFn
namespace Go.Proofs.YtigbapkdpaahjaaDoor
open Go.RowKit
theorem nameOf_at {l : List UInt8} : ∀ {p : Nat}, (l.take p).all isBody = true → (h : p < l.length) → isBody (l[p]'h) = false → (nameOf l).length = p := by
  induction l with
  | nil => intro p _ h; simp at h
  | cons c r ih =>
    intro p ha h hc
    cases p with
    | zero => rw [nameOf_not (show isBody c = false from hc)]; rfl
    | succ p =>
      rw [List.take_succ_cons, List.all_cons, Bool.and_eq_true] at ha
      rw [nameOf_cons ha.1, List.length_cons, ih ha.2 (by simpa using h) hc]
theorem nameOf_whole {l : List UInt8} (h : l.all isBody = true) : nameOf l = l := by
  induction l with
  | nil => rfl
  | cons c r ih =>
    rw [List.all_cons, Bool.and_eq_true] at h
    rw [nameOf_cons h.1, ih h.2]
theorem nameOf_start (s : ByteArray) : (s.data.toList.take 0).all isBody = true := rfl
theorem all_step' (s : ByteArray) (k : Nat) (h : k < s.size) (ha : (s.data.toList.take k).all isBody = true) (hc : isBody s[k] = true) : (s.data.toList.take (k + 1)).all isBody = true := by
  rw [take_snoc s k h, List.all_append, ha]
  simp [hc]
def SizeIs (n : Nat) (w : World) (e : Ending) (w' : World) : Prop := e = .returned (.int .i64 n) ∧ Below w.heap.size w w'
theorem below_iter (w : World) (s : ByteArray) (p : Nat) : Below w.heap.size w (w.iter s p) := (Below.refl _ w).alloc (Nat.le_refl _) _
set_option maxRecDepth 100000 in
theorem lex_nameSize (s : ByteArray) (w : World) : Calls Tryd.prog 20 #[.string s] w (SizeIs (nameOf s.data.toList).length w) := by
  have HB := Lib.hid (fun x W => lex_body x W)
  go_enter Tryd.func20, Tryd.ntmps20
  go_wp2_with fail
  go_loopw [] (fun wr => ∃ pos : Nat, pos ≤ s.size ∧ wr = w.iter s pos ∧ Hid ((s.data.toList.take pos).all isBody = true)) (fun wr => s.size - wr.iterPos w.heap.size)
  case atStart => exact ⟨0, by omega, rfl, Lib.hid (nameOf_start s)⟩
  case round =>
    obtain ⟨pos, hpl, rfl, HA⟩ := hrel
    by_cases hp : pos < s.size
    · by_cases ha : (s[pos]'hp).toNat < 128
      · have hnx : ∀ ty, (Instr.next (.pointer (some ⟨w.heap.size, 0, none⟩)) true ty).run Tryd.prog (w.iter s pos) = _ := fun ty => run_next_ascii w s pos ty hp ha
        have HAS := Lib.hid (fun h => all_step' s pos hp HA.out h)
        have HAT := Lib.hid (fun (h : isBody (s[pos]'hp) = false) => nameOf_at (l := s.data.toList) HA.out (show pos < s.data.toList.length from hp) h)
        have HC := Lib.hid (body_at s[pos])
        generalize (s[pos]'hp) = c at *
        go_wp2_with fail
        refine (HB.out c.toNat _).mono ?_
        rintro e w1 ⟨rfl, rfl⟩
        rw [HC.out]
        cases hb : isBody c with
        | true =>
          have HN := Lib.hid (HAS.out hb)
          clear hb
          go_wp2_with fail
          go_roundw
          case rel => exact ⟨pos + 1, by omega, rfl, HN⟩
          case measure => simp; omega
        | false =>
          have HN := Lib.hid (HAT.out hb)
          clear hb
          go_wp2_with fail
          go_ret
          exact ⟨by rw [HN.out]; rfl, below_iter w s _⟩
      · have hnx : ∀ ty, (Instr.next (.pointer (some ⟨w.heap.size, 0, none⟩)) true ty).run Tryd.prog (w.iter s pos) = _ := fun ty => run_next_any w s pos ty hp
        have HC := Lib.hid (body_high _ (decode_high s pos hp (by omega)).1)
        have HN := Lib.hid (nameOf_at (l := s.data.toList) HA.out (show pos < s.data.toList.length from hp) (by
          have := (body_high _ (show 128 ≤ (s[pos]'hp).toNat by omega)).2.2.2
          rw [body_at] at this; exact this))
        generalize (Utf8.decode s pos).1 = x at *
        generalize (Utf8.decode s pos).2 = k at *
        go_wp2_with fail
        refine (HB.out x _).mono ?_
        rintro e w1 ⟨rfl, rfl⟩
        rw [HC.out.2.2.2]
        go_wp2_with fail
        go_ret
        exact ⟨by rw [HN.out]; rfl, below_iter w s _⟩
    · have hnx : ∀ ty, (Instr.next (.pointer (some ⟨w.heap.size, 0, none⟩)) true ty).run Tryd.prog (w.iter s pos) = _ := fun ty => run_next_end w s pos ty hp
      obtain rfl : pos = s.size := by omega
      have HN := Lib.hid (nameOf_whole (l := s.data.toList) (by have := HA.out; rw [take_end] at this; exact this))
      go_wp2_with fail
      go_ret
      exact ⟨by rw [HN.out]; rfl, below_iter w s _⟩
/-- The bytes of a rune of more than one byte. -/
theorem decode_bytes (s : ByteArray) (pos : Nat) (h : pos < s.size) (ha : 128 ≤ (s[pos]'h).toNat) : pos + (Utf8.decode s pos).2 ≤ s.size ∧ 1 ≤ (Utf8.decode s pos).2 ∧ ∀ k, k < (Utf8.decode s pos).2 → ∀ (hk : pos + k < s.size), 128 ≤ (s[pos + k]'hk).toNat := by
  have hn : ¬ (s[pos]'h).toNat < 128 := by omega
  have hg : ∀ k, ∀ (hk : pos + k < s.size), s.get! (pos + k) = s[pos + k]'hk := fun k hk => by
    have := get_at s (pos + k) hk
    rwa [Nat.add_zero] at this
  simp only [Utf8.decode, get_at s pos h, hn, if_false]
  split
  · rename_i hx
    simp only [Bool.and_eq_true, beq_iff_eq, decide_eq_true_eq] at hx
    obtain ⟨_, h1, h2⟩ := hx
    rw [hg 1 h1] at h2
    split
    · refine ⟨by show pos + 2 ≤ _; omega, by show 1 ≤ 2; decide, fun k hk hl => ?_⟩
      have hk : k < 2 := hk
      obtain rfl | rfl : k = 0 ∨ k = 1 := by omega
      · exact ha
      · omega
    · refine ⟨by show pos + 1 ≤ _; omega, by decide, fun k hk hl => ?_⟩
      have hk : k < 1 := hk
      obtain rfl : k = 0 := by omega
      exact ha
  · split
    · rename_i hx
      simp only [Bool.and_eq_true, beq_iff_eq, decide_eq_true_eq] at hx
      obtain ⟨⟨_, h1, h2⟩, h3, h4⟩ := hx
      rw [hg 1 h1] at h2
      rw [hg 2 h3] at h4
      split
      · refine ⟨by show pos + 3 ≤ _; omega, by show 1 ≤ 3; decide, fun k hk hl => ?_⟩
        have hk : k < 3 := hk
        obtain rfl | rfl | rfl : k = 0 ∨ k = 1 ∨ k = 2 := by omega
        · exact ha
        · omega
        · omega
      · refine ⟨by show pos + 1 ≤ _; omega, by decide, fun k hk hl => ?_⟩
        have hk : k < 1 := hk
        obtain rfl : k = 0 := by omega
        exact ha
    · split
      · rename_i hx
        simp only [Bool.and_eq_true, beq_iff_eq, decide_eq_true_eq] at hx
        obtain ⟨⟨⟨_, h1, h2⟩, h3, h4⟩, h5, h6⟩ := hx
        rw [hg 1 h1] at h2
        rw [hg 2 h3] at h4
        rw [hg 3 h5] at h6
        split
        · refine ⟨by show pos + 4 ≤ _; omega, by show 1 ≤ 4; decide, fun k hk hl => ?_⟩
          have hk : k < 4 := hk
          obtain rfl | rfl | rfl | rfl : k = 0 ∨ k = 1 ∨ k = 2 ∨ k = 3 := by omega
          · exact ha
          · omega
          · omega
          · omega
        · refine ⟨by show pos + 1 ≤ _; omega, by decide, fun k hk hl => ?_⟩
          have hk : k < 1 := hk
          obtain rfl : k = 0 := by omega
          exact ha
      · refine ⟨by show pos + 1 ≤ _; omega, by decide, fun k hk hl => ?_⟩
        have hk : k < 1 := hk
        obtain rfl : k = 0 := by omega
        exact ha
theorem qscan_high {l : List UInt8} : ∀ (k : Nat) (odd : Bool) (i : Nat), 1 ≤ k → k ≤ l.length → (∀ j, j < k → ∀ (h : j < l.length), 128 ≤ (l[j]'h).toNat) → qscan odd i l = qscan false (i + k) (l.drop k) := by
  induction l with
  | nil => intro k odd i h1 h2 _; simp at h2; omega
  | cons c r ih =>
    intro k odd i h1 h2 h3
    have hc : 128 ≤ c.toNat := h3 0 (by omega) (by simp)
    have c1 : c ≠ 34 := fun e => by rw [e] at hc; exact absurd hc (by decide)
    have c2 : c ≠ 92 := fun e => by rw [e] at hc; exact absurd hc (by decide)
    rw [qscan, if_neg (fun h => c1 h.1), decide_eq_false c2, Bool.false_and]
    rcases Nat.eq_or_lt_of_le h1 with rfl | h4
    · rfl
    · obtain ⟨j, rfl⟩ : ∃ j, k = j + 1 := ⟨k - 1, by omega⟩
      rw [ih j false (i + 1) (by omega) (by simpa using h2) (fun x hx hl => h3 (x + 1) (by omega) (by simpa using hl)), List.drop_succ_cons]
      congr 1; omega
/-- How far a quoted text has been read: at its start, or odd says whether the number of \ just before is odd. -/
def QAt (s : ByteArray) (pos : Nat) (odd : Bool) : Prop := (pos = 0 ∧ odd = false) ∨ (1 ≤ pos ∧ qsize s.data.toList = qscan odd pos (s.data.toList.drop pos))
theorem QAt.here {s : ByteArray} {pos : Nat} {odd : Bool} (h : QAt s pos odd) (h34 : s.data.toList.head? = some 34) (hp : pos < s.size) :
    (s[pos]'hp = 34 ∧ odd = false ∧ 1 ≤ pos ∧ qsize s.data.toList = pos + 1) ∨ ((s[pos]'hp = 34 → pos = 0 ∨ odd = true) ∧ QAt s (pos + 1) (decide (s[pos]'hp = 92) && !odd)) := by
  rcases h with ⟨rfl, rfl⟩ | ⟨h1, h2⟩
  · rw [head_of s hp] at h34
    have h34 := Option.some.inj h34
    refine .inr ⟨fun _ => .inl rfl, .inr ⟨by omega, ?_⟩⟩
    rw [h34]; rfl
  · rw [drop_cons s pos hp, qscan] at h2
    by_cases hc : s[pos]'hp = 34 ∧ odd = false
    · rw [if_pos hc] at h2
      exact .inl ⟨hc.1, hc.2, h1, h2⟩
    · rw [if_neg hc] at h2
      refine .inr ⟨fun h3 => .inr ?_, .inr ⟨by omega, h2⟩⟩
      cases odd with
      | true => rfl
      | false => exact absurd ⟨h3, rfl⟩ hc
theorem QAt.high {s : ByteArray} {pos : Nat} {odd : Bool} (h : QAt s pos odd) (h34 : s.data.toList.head? = some 34) (hp : pos < s.size) (ha : 128 ≤ (s[pos]'hp).toNat) : 1 ≤ pos ∧ QAt s (pos + (Utf8.decode s pos).2) false := by
  obtain ⟨h1, h2, h3⟩ := decode_bytes s pos hp ha
  rcases h with ⟨rfl, rfl⟩ | ⟨h4, h5⟩
  · rw [head_of s hp] at h34
    rw [Option.some.inj h34] at ha
    exact absurd ha (by decide)
  · refine ⟨h4, .inr ⟨by omega, ?_⟩⟩
    have hl : s.data.toList.length = s.size := rfl
    rw [h5, qscan_high (Utf8.decode s pos).2 odd pos h2 (by rw [List.length_drop]; omega) (fun j hj hl => by
      rw [List.getElem_drop]
      rw [List.length_drop] at hl
      exact h3 j hj (by omega)), List.drop_drop]
theorem QAt.stop {s : ByteArray} {odd : Bool} (h : QAt s s.size odd) : qsize s.data.toList = 0 := by
  rcases h with ⟨h1, _⟩ | ⟨_, h2⟩
  · have : s.data.toList = [] := List.length_eq_zero_iff.1 (show s.size = 0 by omega)
    rw [this]; rfl
  · rw [h2, drop_end]; rfl
set_option maxRecDepth 100000 in
theorem lex_quotedSize (s : ByteArray) (w : World) (hs : s.size ≤ maxLen) (h34 : s.data.toList.head? = some 34) : Calls Tryd.prog 40 #[.string s] w (SizeIs (qsize s.data.toList) w) := by
  have H34 := Lib.hid h34
  clear h34
  go_enter Tryd.func40, Tryd.ntmps40
  go_wp2_with fail
  go_loopw [3] (fun vo wr => ∃ (pos : Nat) (odd : Bool), pos ≤ s.size ∧ vo = .bool odd ∧ wr = w.iter s pos ∧ Hid (QAt s pos odd)) (fun _ wr => s.size - wr.iterPos w.heap.size)
  case atStart => exact ⟨0, false, by omega, rfl, rfl, Lib.hid (.inl ⟨rfl, rfl⟩)⟩
  case round =>
    obtain ⟨pos, odd, hpl, rfl, rfl, HA⟩ := hrel
    by_cases hp : pos < s.size
    · by_cases ha : (s[pos]'hp).toNat < 128
      · have hnx : ∀ ty, (Instr.next (.pointer (some ⟨w.heap.size, 0, none⟩)) true ty).run Tryd.prog (w.iter s pos) = _ := fun ty => run_next_ascii w s pos ty hp ha
        have HQ := Lib.hid (HA.out.here H34.out hp)
        generalize (s[pos]'hp) = c at *
        rcases HQ.out with ⟨h1, h2, h3, h4⟩ | ⟨h1, h2⟩
        · have HN := Lib.hid h4
          subst h1 h2
          have g1 : decide ((0 : Int) < (pos : Int)) = true := decide_eq_true (by omega)
          have g2 : decide (0 < pos) = true := decide_eq_true (by omega)
          clear HQ h4
          go_wp2_with fail
          go_ret
          refine ⟨?_, below_iter w s _⟩
          rw [HN.out, ← show wrap64 ((pos : Int) + 1) = ((pos + 1 : Nat) : Int) by unfold wrap64; unfold maxLen at hs; omega]
          rfl
        · have HN := Lib.hid h2
          clear HQ h2
          by_cases c34 : c = 34
          · have h5 := h1 c34
            clear h1
            subst c34
            rcases h5 with rfl | rfl
            · clear HA
              go_wp2_with fail
              go_roundw
              case rel => exact ⟨1, _, by omega, rfl, rfl, HN⟩
              case measure => simp; omega
            · by_cases h0 : 0 < pos
              · have g1 : decide ((0 : Int) < (pos : Int)) = true := decide_eq_true (by omega)
                have g2 : decide (0 < pos) = true := decide_eq_true h0
                go_wp2_with fail
                go_roundw
                case rel => exact ⟨pos + 1, _, by omega, rfl, rfl, HN⟩
                case measure => simp; omega
              · obtain rfl : pos = 0 := by omega
                go_wp2_with fail
                go_roundw
                case rel => exact ⟨1, _, by omega, rfl, rfl, HN⟩
                case measure => simp; omega
          · have g1 : ((c.toNat : Int) == 34) = false := (byte_ne (n := 34) (by decide)).2 c34
            clear h1
            by_cases c92 : c = 92
            · subst c92
              go_wp2_with fail
              go_roundw
              case rel => exact ⟨pos + 1, _, by omega, rfl, rfl, Lib.hid (by simpa using HN.out)⟩
              case measure => simp; omega
            · have g2 : ((c.toNat : Int) == 92) = false := (byte_ne (n := 92) (by decide)).2 c92
              have HN2 : Hid (QAt s (pos + 1) false) := Lib.hid (by have := HN.out; rw [decide_eq_false c92, Bool.false_and] at this; exact this)
              clear c34 c92 HN
              go_wp2_with fail
              go_roundw
              case rel => exact ⟨pos + 1, _, by omega, rfl, rfl, HN2⟩
              case measure => simp; omega
      · have hnx : ∀ ty, (Instr.next (.pointer (some ⟨w.heap.size, 0, none⟩)) true ty).run Tryd.prog (w.iter s pos) = _ := fun ty => run_next_any w s pos ty hp
        obtain ⟨h1, h2⟩ := HA.out.high H34.out hp (by omega)
        have HN := Lib.hid h2
        have hx := (decode_high s pos hp (by omega)).1
        obtain ⟨hk1, hk2, _⟩ := decode_bytes s pos hp (by omega)
        clear h2
        generalize (Utf8.decode s pos).1 = x at *
        generalize (Utf8.decode s pos).2 = k at *
        have g1 : ((x : Int) == 34) = false := by rw [beq_eq_false_iff_ne]; omega
        have g2 : ((x : Int) == 92) = false := by rw [beq_eq_false_iff_ne]; omega
        go_wp2_with fail
        go_roundw
        case rel => exact ⟨pos + k, _, by omega, rfl, rfl, HN⟩
        case measure => simp; omega
    · have hnx : ∀ ty, (Instr.next (.pointer (some ⟨w.heap.size, 0, none⟩)) true ty).run Tryd.prog (w.iter s pos) = _ := fun ty => run_next_end w s pos ty hp
      obtain rfl : pos = s.size := by omega
      have HN := Lib.hid HA.out.stop
      go_wp2_with fail
      go_ret
      exact ⟨by rw [HN.out]; rfl, below_iter w s _⟩
end Go.Proofs.YtigbapkdpaahjaaDoor
