/-
  Lex: the walk of Lex: all tokens, or what is wrong first. Condition: the variable of the signs holds what its initialiser lays.
-/
import Derived.Test.YtigbapkdpaahjaaDoorLRow
namespace Go.Proofs.YtigbapkdpaahjaaDoor
open Go.RowKit
/-- All tokens and the end, or what is wrong first. -/
def LexV (l : List UInt8) : LR := if 4096 < l.length then .bad 4 0 else (match lexGo 0 0 l with
  | .ok T => .ok (T ++ [(⟨0, [], 0⟩, l.length)])
  | .bad e q => .bad e q)
def LexMade (r : LR) (w : World) (x : Ending) (w' : World) : Prop := match r with
  | .ok T => ∃ v, x = .returned (.tuple #[v, .int .i64 0, .int .i64 0]) ∧ TokRow w.heap.size w' v T ∧ Below w.heap.size w w'
  | .bad e q => x = .returned (.tuple #[.slice none 0 0, .int .i64 e, .int .i64 (q : Nat)]) ∧ Below w.heap.size w w'
/-- What the loop of Lex keeps: at pos, the newest token ends at en. -/
def LexKeep (s : ByteArray) (T : List (TK × Nat)) (pos en : Nat) : Prop := lexGo 0 0 s.data.toList = (lexGo pos (en - pos) (s.data.toList.drop pos)).add T ∧ en ≤ s.size ∧ T.length ≤ pos ∧ ∀ j (hj : j < s.size), pos ≤ j → j < en → (s[j]'hj).toNat < 128
theorem LexKeep.start (s : ByteArray) : LexKeep s [] 0 0 := ⟨by
  rw [List.drop_zero]
  show lexGo 0 0 s.data.toList = _
  cases lexGo 0 0 s.data.toList <;> rfl, by omega, by simp, fun j hj h1 h2 => by omega⟩
theorem LexKeep.skip {s : ByteArray} {T : List (TK × Nat)} {pos en : Nat} (h : LexKeep s T pos en) (hp : pos < s.size) (he : pos < en) : LexKeep s T (pos + 1) en ∧ (s[pos]'hp).toNat < 128 := by
  obtain ⟨h1, h2, h3, h4⟩ := h
  refine ⟨⟨?_, h2, by omega, fun j hj h5 h6 => h4 j hj (by omega) h6⟩, h4 pos hp (Nat.le_refl _) he⟩
  rw [h1, drop_cons s pos hp, show en - pos = (en - (pos + 1)) + 1 by omega]
  rfl
theorem LexKeep.blank {s : ByteArray} {T : List (TK × Nat)} {pos en : Nat} (h : LexKeep s T pos en) (hp : pos < s.size) (he : ¬ pos < en) (hb : isBlank (s[pos]'hp) = true) : LexKeep s T (pos + 1) en := by
  obtain ⟨h1, h2, h3, h4⟩ := h
  refine ⟨?_, h2, by omega, fun j hj h5 h6 => h4 j hj (by omega) h6⟩
  rw [h1, drop_cons s pos hp, show en - pos = 0 by omega, lexGo_blank hb, show en - (pos + 1) = 0 by omega]
theorem LexKeep.tok {s : ByteArray} {T : List (TK × Nat)} {pos en : Nat} {t : TK} {n : Nat} (h : LexKeep s T pos en) (hp : pos < s.size) (he : ¬ pos < en) (hb : isBlank (s[pos]'hp) = false) (ht : oneV (s.data.toList.drop pos) = .tok t n) : LexKeep s (T ++ [(t, pos)]) (pos + 1) (pos + n) ∧ (s[pos]'hp).toNat < 128 ∧ pos + n ≤ s.size ∧ 1 ≤ n := by
  obtain ⟨h1, h2, h3, h4⟩ := h
  have ha := tok_ascii ht
  obtain ⟨h5, h6, h7, _, _⟩ := oneV_tok ht
  rw [List.length_drop] at h6
  have hl : s.data.toList.length = s.size := rfl
  have hat : ∀ j (hj : j < s.size), pos ≤ j → j < pos + n → (s[j]'hj).toNat < 128 := fun j hj h8 h9 => by
    refine ha (s[j]'hj) ?_
    rw [List.mem_iff_getElem]
    refine ⟨j - pos, by rw [List.length_take, List.length_drop]; omega, ?_⟩
    rw [List.getElem_take, List.getElem_drop]
    have : pos + (j - pos) = j := by omega
    simp only [this]
    rfl
  refine ⟨⟨?_, by omega, by rw [List.length_append]; simp; omega, fun j hj h8 h9 => hat j hj (by omega) h9⟩, hat pos hp (Nat.le_refl _) (by omega), by omega, h7⟩
  rw [h1, show en - pos = 0 by omega]
  rw [drop_cons s pos hp] at ht ⊢
  rw [lexGo, if_neg (by rw [hb]; decide), ht]
  show ((lexGo (pos + 1) (n - 1) (s.data.toList.drop (pos + 1))).add [(t, pos)]).add T = _
  rw [LR.add_add, show pos + n - (pos + 1) = n - 1 by omega]
theorem LexKeep.err {s : ByteArray} {T : List (TK × Nat)} {pos en : Nat} {e : Int} (h : LexKeep s T pos en) (hs : s.size ≤ 4096) (hp : pos < s.size) (he : ¬ pos < en) (hb : isBlank (s[pos]'hp) = false) (ht : oneV (s.data.toList.drop pos) = .err e) : LexV s.data.toList = .bad e pos := by
  obtain ⟨h1, h2, h3, h4⟩ := h
  have hl : s.data.toList.length = s.size := rfl
  unfold LexV
  rw [if_neg (by omega), h1, show en - pos = 0 by omega]
  rw [drop_cons s pos hp] at ht ⊢
  rw [lexGo_err hb _ ht]; rfl
theorem LexKeep.stop {s : ByteArray} {T : List (TK × Nat)} {en : Nat} (h : LexKeep s T s.size en) (hs : s.size ≤ 4096) : LexV s.data.toList = .ok (T ++ [(⟨0, [], 0⟩, s.size)]) := by
  obtain ⟨h1, h2, h3, h4⟩ := h
  have hl : s.data.toList.length = s.size := rfl
  unfold LexV
  rw [if_neg (by omega), h1, drop_end, lexGo_nil]
  show LR.ok (T ++ [] ++ _) = _
  rw [List.append_nil, hl]
theorem below_one' {w : World} (o : Obj) : Below w.heap.size w (w.alloc o) := (Below.refl _ w).alloc (Nat.le_refl _) o
theorem extract_drop (s : ByteArray) (k : Nat) : (s.extract k s.size).data.toList = s.data.toList.drop k := by
  rw [Lib.extract_data]
  exact List.take_of_length_le (by rw [List.length_drop]; exact Nat.le_refl _)
theorem oneV_bad {c : UInt8} {r : List UInt8} {e : Int} (hb : isBlank c = false) (h : oneV (c :: r) = .err e) : e = 2 ∨ e = 20 := (lexGo_bad 0 (c :: r) e 0 (lexGo_err hb 0 h)).2.2
theorem rune_of (s : ByteArray) (pos : Nat) (hp : pos < s.size) : RuneOf (Utf8.decode s pos).1 (s[pos]'hp) := by
  by_cases ha : (s[pos]'hp).toNat < 128
  · rw [decode_ascii s pos hp ha]; exact .inl ⟨rfl, ha⟩
  · exact .inr ⟨(decode_high s pos hp (by omega)).1, by omega⟩
theorem lexV_big {l : List UInt8} (h : 4096 < l.length) : LexV l = .bad 4 0 := by unfold LexV; rw [if_pos h]
theorem lexMade_bad {r : LR} {e : Int} {q : Nat} (h : r = .bad e q) {w w' : World} (hb : Below w.heap.size w w') : LexMade r w (.returned (.tuple #[.slice none 0 0, .int .i64 e, .int .i64 (q : Nat)])) w' := by
  subst h; exact ⟨rfl, hb⟩
theorem lexMade_ok {r : LR} {T : List (TK × Nat)} (h : r = .ok T) {w w' : World} {v : Value} (hr : TokRow w.heap.size w' v T) (hb : Below w.heap.size w w') : LexMade r w (.returned (.tuple #[v, .int .i64 0, .int .i64 0])) w' := by
  subst h; exact ⟨v, rfl, hr, hb⟩
set_option maxRecDepth 100000 in
set_option maxHeartbeats 4000000 in
theorem lex_Lex (s : ByteArray) (w : World) (hy : Syms w) : Calls Tryd.prog 9 #[.string s] w (LexMade (LexV s.data.toList) w) := by
  by_cases hbig : 4096 < s.size
  · have g1 : decide (4096 < (s.size : Int)) = true := decide_eq_true (by omega)
    have g2 : decide (4096 < s.size) = true := decide_eq_true hbig
    have HE := Lib.hid (lexV_big (l := s.data.toList) hbig)
    clear hbig hy
    go_enter Tryd.func9, Tryd.ntmps9
    go_wp2_with fail
    exact bodyPost_ret (v := .tuple #[.slice none 0 0, .int .i64 4, .int .i64 0]) (by simp [results, Tryd.results9, go_sem]) rfl (lexMade_bad HE.out (Below.refl _ _))
  · have g1 : decide (4096 < (s.size : Int)) = false := decide_eq_false (by omega)
    have g2 : decide (4096 < s.size) = false := decide_eq_false hbig
    have hs : s.size ≤ 4096 := by omega
    have HY := Lib.hid hy
    have HK0 := Lib.hid (LexKeep.start s)
    have HS0 := Lib.hid (LS.start s w)
    obtain ⟨i0, hi0, hz0, hz1, hz2⟩ := tok_info
    clear hbig hy
    go_enter Tryd.func9, Tryd.ntmps9
    go_wp2_with fail
    go_loopw [5, 6] (fun ut ve wr => ∃ (T : List (TK × Nat)) (pos en : Nat) (vt : Value), vt = ut ∧ pos ≤ s.size ∧ ve = .int .i64 en ∧ en ≤ s.size ∧ T.length ≤ pos ∧ Hid (LS s w T vt pos wr) ∧ Hid (LexKeep s T pos en)) (fun _ _ wr => s.size - wr.iterPos w.heap.size)
    case atStart => exact ⟨[], 0, 0, _, rfl, by omega, by go_num, by omega, by simp, HS0, HK0⟩
    case round =>
      obtain ⟨T, pos, en, vt, rfl, hpl, rfl, hen, hT, HS, HK⟩ := hrel
      clear HK0 HS0
      have hit := HS.out.1
      by_cases hp : pos < s.size
      · have hnx : ∀ ty, (Instr.next (.pointer (some ⟨w.heap.size, 0, none⟩)) true ty).run Tryd.prog wr = _ := fun ty => Lib.run_next_any_at wr w.heap.size s pos ty hit hp
        have hpos : wr.iterPos w.heap.size = pos := by unfold World.iterPos; rw [hit]
        have HN := Lib.hid (HS.out.next (pos + (Utf8.decode s pos).2))
        have hwd : 1 ≤ (Utf8.decode s pos).2 ∧ pos + (Utf8.decode s pos).2 ≤ s.size := by
          by_cases ha : (s[pos]'hp).toNat < 128
          · rw [decode_ascii s pos hp ha]; exact ⟨Nat.le_refl _, hp⟩
          · have := decode_bytes s pos hp (by omega)
            exact ⟨this.2.1, this.1⟩
        by_cases he : pos < en
        · have g3 : decide ((pos : Int) < (en : Int)) = true := decide_eq_true (by omega)
          have g4 : decide (pos < en) = true := decide_eq_true he
          obtain ⟨h1, h2⟩ := HK.out.skip hp he
          have HK2 := Lib.hid h1
          have hw1 : (Utf8.decode s pos).2 = 1 := by rw [decode_ascii s pos hp h2]
          rw [hw1] at hnx HN hwd
          clear hw1 h1 h2 HK he
          generalize (Utf8.decode s pos).1 = x at *
          generalize wr.iterAt w.heap.size s (pos + 1) = w2 at *
          have hp2 : w2.iterPos w.heap.size = pos + 1 := by unfold World.iterPos; rw [HN.out.1]
          go_wp2_with fail
          go_roundw
          case rel => exact ⟨T, pos + 1, en, vt, rfl, by omega, by go_num, hen, by omega, HN, HK2⟩
          case measure => rw [hp2, hpos]; omega
        · have g3 : decide ((pos : Int) < (en : Int)) = false := decide_eq_false (by omega)
          have g4 : decide (pos < en) = false := decide_eq_false he
          have hx := rune_of s pos hp
          obtain ⟨_, _, _, _, _, h32, h10⟩ := hx.same
          cases hbl : isBlank (s[pos]'hp) with
          | true =>
            have HK2 := Lib.hid (HK.out.blank hp he hbl)
            have hlt : (s[pos]'hp).toNat < 128 := by
              unfold isBlank at hbl
              simp only [Bool.or_eq_true, decide_eq_true_eq] at hbl
              rcases hbl with h | h <;> (rw [h]; decide)
            have hor : decide ((s[pos]'hp) = 32) = true ∨ (decide ((s[pos]'hp) = 32) = false ∧ decide ((s[pos]'hp) = 10) = true) := by
              unfold isBlank at hbl
              cases hd : decide ((s[pos]'hp) = 32) with
              | true => exact .inl rfl
              | false => rw [hd, Bool.false_or] at hbl; exact .inr ⟨rfl, hbl⟩
            have hw1 : (Utf8.decode s pos).2 = 1 := by rw [decode_ascii s pos hp hlt]
            rw [hw1] at hnx HN hwd
            clear hw1 hx HK hlt he hbl
            generalize (Utf8.decode s pos).1 = x at *
            generalize wr.iterAt w.heap.size s (pos + 1) = w2 at *
            have hp2 : w2.iterPos w.heap.size = pos + 1 := by unfold World.iterPos; rw [HN.out.1]
            rcases hor with h1 | ⟨h1, h2⟩
            · rw [h1] at h32
              clear h1 h10
              go_wp2_with fail
              go_roundw
              case rel => exact ⟨T, pos + 1, en, vt, rfl, by omega, by go_num, hen, by omega, HN, HK2⟩
              case measure => rw [hp2, hpos]; omega
            · rw [h1] at h32
              rw [h2] at h10
              clear h1 h2
              go_wp2_with fail
              go_roundw
              case rel => exact ⟨T, pos + 1, en, vt, rfl, by omega, by go_num, hen, by omega, HN, HK2⟩
              case measure => rw [hp2, hpos]; omega
          | false =>
            have hor : decide ((s[pos]'hp) = 32) = false ∧ decide ((s[pos]'hp) = 10) = false := by
              unfold isBlank at hbl
              exact ⟨(Bool.or_eq_false_iff.1 hbl).1, (Bool.or_eq_false_iff.1 hbl).2⟩
            rw [hor.1] at h32
            rw [hor.2] at h10
            have HRD : Hid (∀ W, Syms W → Calls Tryd.prog 15 #[.string (s.extract pos s.size), .int .i32 (Utf8.decode s pos).1] W (OneIs (oneV (s.data.toList.drop pos)) W)) := Lib.hid (fun W hW => by
              have h9 := lex_read (s.extract pos s.size) (Utf8.decode s pos).1 W (by rw [ByteArray.size_extract]; omega) hW (s[pos]'hp) (s.data.toList.drop (pos + 1)) (by rw [extract_drop]; exact drop_cons s pos hp) hx
              rw [extract_drop] at h9
              exact h9)
            have HTK := Lib.hid (fun (t : TK) (n : Nat) (ht : oneV (s.data.toList.drop pos) = .tok t n) => HK.out.tok hp he hbl ht)
            have HER := Lib.hid (fun (e : Int) (ht : oneV (s.data.toList.drop pos) = .err e) => (show LexV s.data.toList = .bad e pos ∧ (e = 2 ∨ e = 20) from ⟨HK.out.err hs hp he hbl ht, by rw [drop_cons s pos hp] at ht; exact oneV_bad hbl ht⟩))
            have HW1 := Lib.hid (fun (ha : (s[pos]'hp).toNat < 128) => (show (Utf8.decode s pos).2 = 1 by rw [decode_ascii s pos hp ha]))
            have HSY := Lib.hid (HY.out.below HN.out.2.2)
            generalize oneV (s.data.toList.drop pos) = rr at *
            have g5 : (pos : Int) ≤ (s.size : Int) := by omega
            clear hor hx HK hbl he
            generalize (Utf8.decode s pos).1 = x at *
            generalize (Utf8.decode s pos).2 = k at *
            generalize wr.iterAt w.heap.size s (pos + k) = w2 at *
            go_wp2_with fail
            refine (HRD.out _ HSY.out).mono ?_
            rintro e W1 ho
            obtain ⟨t, n, er, rfl, hb1, hor⟩ := oneIs_size ho
            obtain ⟨tk, tt, tn⟩ := t
            have HN1 := Lib.hid (HN.out.below hb1)
            clear ho hb1 HRD HSY HN
            unfold tokAgg
            rcases hor with ⟨rfl, hrr⟩ | ⟨hrr, _, _⟩
            · obtain ⟨h1, h2, h3, h4⟩ := HTK.out _ _ hrr
              have hk1 := HW1.out h2
              have HK2 := Lib.hid h1
              subst hk1
              clear hrr h1 h2 HTK HER HW1
              have E1 : wrap64 ((pos : Int) + (n : Int)) = ((pos + n : Nat) : Int) := by unfold wrap64; omega
              have HBX : Hid (TokBox (W1.alloc (.cells #[.int .i64 tk, .int .i64 (pos : Int), .string ⟨tt.toArray⟩, .int .i64 tn] 31 (0, 0))) W1.heap.size tk pos ⟨tt.toArray⟩ tn) := Lib.hid (box_at W1 _ _ rfl)
              have HN1a := Lib.hid (HN1.out.below (below_one' (w := W1) (.cells #[.int .i64 tk, .int .i64 (pos : Int), .string ⟨tt.toArray⟩, .int .i64 tn] 31 (0, 0))))
              go_upto_region 13 with fail
              generalize W1.alloc (.cells #[.int .i64 tk, .int .i64 (pos : Int), .string ⟨tt.toArray⟩, .int .i64 tn] 31 (0, 0)) = w5 at *
              generalize W1.heap.size = bx at *
              obtain ⟨c0, c1, c2, c3, _⟩ := HBX.out.cells
              have hbl := box_lt HBX.out
              have hown : Hid ((w5.alloc (.cells #[.int .i64 tk, .int .i64 (pos : Int), .string ⟨tt.toArray⟩, .int .i64 tn] 31 (0, 0))).ownsRow w.heap.size 31 4 vt T.length (tokCells T)) := Lib.hid (World.ownsRow.alloc HN1a.out.2.1 _)
              have hsrc := Lib.hid (tok_cells4 w5 tk (pos : Int) tn ⟨tt.toArray⟩)
              have hone := Lib.hid (tok_one tk (pos : Int) tn ⟨tt.toArray⟩)
              have hbw : w.heap.size ≤ (w5.alloc (.cells #[.int .i64 tk, .int .i64 (pos : Int), .string ⟨tt.toArray⟩, .int .i64 tn] 31 (0, 0))).heap.size := by have := HN1a.out.lt; simp; omega
              have HN2 := Lib.hid (HN1a.out.below (below_one' (.cells #[.int .i64 tk, .int .i64 (pos : Int), .string ⟨tt.toArray⟩, .int .i64 tn] 31 (0, 0))))
              go_wp2_with (at_builtin; refine wpList_append_own_at _ rfl (.tmp 47) (.tmp 49) 23 rfl w.heap.size 31 i0 _ 4 40 Tryd.underlying23 hi0 hz0 hz1 hz2 rfl (by decide) _ _ _ rfl hown.out ⟨w5.heap.size, 0, none⟩ 1 1 [.int .i64 tk, .int .i64 (pos : Int), .string ⟨tt.toArray⟩, .int .i64 tn] rfl rfl hsrc.out hone.out (by unfold maxLen; omega) (by omega) hbw ?_)
              intro v1 w4 hown1 hgr1 hnn1 hat1
              have HN3 := Lib.hid (HN2.out.push hgr1 hown1)
              clear hown1 hgr1 hnn1 hat1 hown hsrc hone hbw HN2 HN1 HN1a c0 c1 c2 c3 hbl HBX
              have hp2 : w4.iterPos w.heap.size = pos + 1 := by unfold World.iterPos; rw [HN3.out.1]
              go_wp2_with fail
              go_roundw
              case rel => exact ⟨T ++ [(⟨tk, tt, tn⟩, pos)], pos + 1, pos + n, v1, rfl, by omega, by first | rfl | (rw [E1]), by omega, by rw [List.length_append]; simp; omega, HN3, HK2⟩
              case measure => rw [hp2, hpos]; omega
            · obtain ⟨h1, h2⟩ := HER.out _ hrr
              have HE := Lib.hid h1
              have B1 : (er != 0) = true := by rw [bne_iff_ne]; omega
              clear hrr h1 HTK HER HW1
              go_wp2_with fail
              exact bodyPost_ret (v := .tuple #[.slice none 0 0, .int .i64 er, .int .i64 (pos : Int)]) (by simp [results, Tryd.results9, go_sem]) rfl (lexMade_bad HE.out (HN1.out.2.2.alloc HN1.out.2.2.size _))
      · have hnx : ∀ ty, (Instr.next (.pointer (some ⟨w.heap.size, 0, none⟩)) true ty).run Tryd.prog wr = _ := fun ty => Lib.run_next_end_at wr w.heap.size s pos ty hit hp
        obtain rfl : pos = s.size := by omega
        have HE := Lib.hid (HK.out.stop hs)
        have hown : Hid ((wr.alloc (.cells #[.int .i64 0, .int .i64 (s.size : Int), .string ⟨#[]⟩, .int .i64 0] 31 (0, 0))).ownsRow w.heap.size 31 4 vt T.length (tokCells T)) := Lib.hid (World.ownsRow.alloc HS.out.2.1 _)
        have hsrc := Lib.hid (tok_cells4 wr 0 (s.size : Int) 0 ⟨#[]⟩)
        have hone := Lib.hid (tok_one 0 (s.size : Int) 0 ⟨#[]⟩)
        have hbw : w.heap.size ≤ (wr.alloc (.cells #[.int .i64 0, .int .i64 (s.size : Int), .string ⟨#[]⟩, .int .i64 0] 31 (0, 0))).heap.size := by have := HS.out.lt; simp; omega
        have HN2 := Lib.hid (HS.out.below (below_one' (.cells #[.int .i64 0, .int .i64 (s.size : Int), .string ⟨#[]⟩, .int .i64 0] 31 (0, 0))))
        clear hit HK HS
        go_wp2_with (at_builtin; refine wpList_append_own_at _ rfl (.tmp 54) (.tmp 58) 23 rfl w.heap.size 31 i0 _ 4 40 Tryd.underlying23 hi0 hz0 hz1 hz2 rfl (by decide) _ _ _ rfl hown.out ⟨wr.heap.size, 0, none⟩ 1 1 [.int .i64 0, .int .i64 (s.size : Int), .string ⟨#[]⟩, .int .i64 0] (by first | rfl | simp) rfl hsrc.out hone.out (by unfold maxLen; omega) (by omega) hbw ?_)
        intro v1 w4 hown1 hgr1 hnn1 hat1
        have HN3 := Lib.hid (HN2.out.push (x := []) hgr1 hown1)
        clear hown1 hgr1 hnn1 hat1 hown hsrc hone hbw HN2
        go_wp2_with fail
        exact bodyPost_ret (v := .tuple #[v1, .int .i64 0, .int .i64 0]) (by simp [results, Tryd.results9, go_sem]) rfl (lexMade_ok HE.out HN3.out.2.1 HN3.out.2.2)
end Go.Proofs.YtigbapkdpaahjaaDoor
