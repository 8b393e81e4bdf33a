/-
  Lex: the walk of the document's own Lex: the same tokens, or the same that is wrong.
-/
import Derived.Test.YtigbapkdpaahjaaDoorLOne
import Derived.Test.YtigbapkdpaahjaaDoorLOut
import Derived.Deep.RegionWith
namespace Go.Proofs.YtigbapkdpaahjaaDoor
open Go.RowKit
theorem LexKeep.settle {s : ByteArray} {T : List (TK × Nat)} {pos en : Nat} (h : LexKeep s T pos en) (he : en ≤ pos) (hp : pos ≤ s.size) : LexKeep s T pos pos := by
  obtain ⟨h1, h2, h3, h4⟩ := h
  refine ⟨?_, hp, h3, fun j hj a b => by omega⟩
  rw [h1, show en - pos = 0 by omega, Nat.sub_self]
theorem LexKeep.jump {s : ByteArray} {T : List (TK × Nat)} : ∀ (d pos en : Nat), en - pos ≤ d → LexKeep s T pos en → pos ≤ en → LexKeep s T en en
  | 0, pos, en, hd, h, hl => by
    obtain rfl : pos = en := by omega
    exact h
  | d + 1, pos, en, hd, h, hl => by
    by_cases he : pos = en
    · subst he; exact h
    · have := h.2.1
      exact LexKeep.jump d (pos + 1) en (by omega) (h.skip (by omega) (by omega)).1 (by omega)
/-- The loop of the document's Lex: the tokens so far. -/
def RS (w : World) (T : List (TK × Nat)) (v : Value) (wr : World) : Prop := TokRow w.heap.size wr v T ∧ Below w.heap.size w wr
theorem RS.below {w wr w' : World} {T : List (TK × Nat)} {v : Value} (h : RS w T v wr) (hb : Below wr.heap.size wr w') : RS w T v w' := ⟨h.1.below hb, h.2.trans (hb.mono h.2.size)⟩
theorem RS.start (w : World) : RS w [] (.slice (some ⟨w.heap.size, 0, none⟩) 0 0) (w.alloc (.cells #[] 31 (0, 0))) :=
  ⟨World.ownsRow_made w #[] 0 (Nat.le_refl _) (by unfold maxLen; omega) rfl, below_one' _⟩
theorem RS.push {w wr w' : World} {T : List (TK × Nat)} {v v' : Value} {k n : Int} {x : List UInt8} {q : Nat} (h : RS w T v wr) (hg : wr.grownBy w' v.ownBlock)
    (ho : w'.ownsRow w.heap.size 31 4 v' (T.length + 1) (tokCells T ++ [.int .i64 k, .int .i64 (q : Nat), .string ⟨x.toArray⟩, .int .i64 n])) : RS w (T ++ [(⟨k, x, n⟩, q)]) v' w' :=
  tok_push h.2 hg (fun b hx => (World.ownsRow.lt h.1 b hx).1) ho
theorem refOne_is {r : OneR} {a : Nat} {w w' : World} {x : Ending} (h : RefOne r a w x w') : ∃ k tt tn en er, x = .returned (.tuple #[tokAgg k (a : Int) tt tn, .int .i64 en, .int .i64 er]) ∧ Below w.heap.size w w' ∧ ((er = 0 ∧ ∃ n : Nat, r = .tok ⟨k, tt, tn⟩ n ∧ en = ((a + n : Nat) : Int)) ∨ r = .err er) := by
  cases r with
  | tok t n =>
    obtain ⟨rfl, hb⟩ := h
    exact ⟨t.kind, t.text, t.n, _, 0, rfl, hb, .inl ⟨rfl, n, rfl, rfl⟩⟩
  | err e =>
    obtain ⟨k, tt, tn, en, rfl, hb⟩ := h
    exact ⟨k, tt, tn, en, e, rfl, hb, .inr rfl⟩
set_option maxRecDepth 100000 in
set_option maxHeartbeats 4000000 in
theorem ref_Lex (s : ByteArray) (w : World) : Calls Tryd.prog 10 #[.string s] w (LexMade (LexV s.data.toList) w) := by
  by_cases hbig : 4096 < s.size
  · have g1 : decide (4096 < (s.size : Int)) = true := decide_eq_true (by omega)
    have g2 : decide (4096 < s.size) = true := decide_eq_true hbig
    have HE := Lib.hid (lexV_big (l := s.data.toList) hbig)
    clear hbig
    go_enter Tryd.func10, Tryd.ntmps10
    go_wp2_with fail
    exact bodyPost_ret (v := .tuple #[.slice none 0 0, .int .i64 4, .int .i64 0]) (by simp [results, Tryd.results10, go_sem]) rfl (lexMade_bad HE.out (Below.refl _ _))
  · have g1 : decide (4096 < (s.size : Int)) = false := decide_eq_false (by omega)
    have g2 : decide (4096 < s.size) = false := decide_eq_false hbig
    have hs : s.size ≤ 4096 := by omega
    have HK0 := Lib.hid (LexKeep.start s)
    have HS0 := Lib.hid (RS.start w)
    obtain ⟨i0, hi0, hz0, hz1, hz2⟩ := tok_info
    clear hbig
    go_enter Tryd.func10, Tryd.ntmps10
    go_wp2_with fail
    clear g1 g2
    go_loopw [5, 6] (fun ut va wr => ∃ (T : List (TK × Nat)) (pos : Nat) (vt : Value), vt = ut ∧ va = .int .i64 pos ∧ pos ≤ s.size ∧ T.length ≤ pos ∧ Hid (RS w T vt wr) ∧ Hid (LexKeep s T pos pos)) (fun _ va _ => s.size - (intOf va).toNat)
    case atStart => exact ⟨[], 0, _, rfl, by go_num, by omega, by simp, HS0, HK0⟩
    case round =>
      obtain ⟨T, pos, vt, rfl, rfl, hpl, hT, HS, HK⟩ := hrel
      clear HK0 HS0
      by_cases hp : pos < s.size
      · have g1 : decide ((pos : Int) < (s.size : Int)) = true := decide_eq_true (by omega)
        have g1' : (pos : Int) < (s.size : Int) := by omega
        have g2' : (0 : Int) ≤ (pos : Int) := by omega
        have hix := fun W => index_at s pos hp pos rfl W
        cases hbl : isBlank (s[pos]'hp) with
        | true =>
          have HK2 := Lib.hid ((HK.out.blank hp (by omega) hbl).settle (by omega) (by omega))
          have hor : (s[pos]'hp) = 32 ∨ (s[pos]'hp) = 10 := by
            unfold isBlank at hbl
            simpa using hbl
          clear HK hbl
          generalize s[pos] = c at *
          rcases hor with rfl | rfl
          · go_wp2_with fail
            go_roundw
            case rel => exact ⟨T, pos + 1, vt, rfl, by go_num, by omega, by omega, HS, HK2⟩
            case measure => simp [intOf]; omega
          · go_wp2_with fail
            go_roundw
            case rel => exact ⟨T, pos + 1, vt, rfl, by go_num, by omega, by omega, HS, HK2⟩
            case measure => simp [intOf]; omega
        | false =>
          have hor : (s[pos]'hp) ≠ 32 ∧ (s[pos]'hp) ≠ 10 := by
            unfold isBlank at hbl
            simpa using hbl
          have hb1 : (((s[pos]'hp).toNat : Int) == 32) = false := (byte_ne (n := 32) (by decide)).2 hor.1
          have hb2 : (((s[pos]'hp).toNat : Int) == 10) = false := (byte_ne (n := 10) (by decide)).2 hor.2
          have HRD : Hid (∀ W, Calls Tryd.prog 16 #[.string s, .int .i64 (pos : Int)] W (RefOne (oneV (s.data.toList.drop pos)) pos W)) := Lib.hid (fun W => ref_one5 s pos W hs hp)
          have HTK := Lib.hid (fun (t : TK) (n : Nat) (ht : oneV (s.data.toList.drop pos) = .tok t n) => (show LexKeep s (T ++ [(t, pos)]) (pos + n) (pos + n) ∧ pos + n ≤ s.size ∧ 1 ≤ n from by
            obtain ⟨h1, _, h3, h4⟩ := HK.out.tok hp (by omega) hbl ht
            exact ⟨LexKeep.jump n (pos + 1) (pos + n) (by omega) h1 (by omega), h3, h4⟩))
          have HER := Lib.hid (fun (e : Int) (ht : oneV (s.data.toList.drop pos) = .err e) => (show LexV s.data.toList = .bad e pos ∧ (e = 2 ∨ e = 20) from ⟨HK.out.err hs hp (by omega) hbl ht, by rw [drop_cons s pos hp] at ht; exact oneV_bad hbl ht⟩))
          generalize oneV (s.data.toList.drop pos) = rr at *
          clear hor HK hbl
          generalize s[pos] = c at *
          go_upto_region 8 with fail
          clear hb1 hb2 hix g1 g1' g2'
          go_wp2_with fail
          refine (HRD.out _).mono ?_
          rintro e W1 ho
          obtain ⟨tk, tt, tn, en, er, rfl, hb1, hor⟩ := refOne_is ho
          have HN1 := Lib.hid (HS.out.below hb1)
          clear ho hb1 HRD HS
          unfold tokAgg
          rcases hor with ⟨rfl, n, hrr, rfl⟩ | hrr
          · obtain ⟨h1, h2, h3⟩ := HTK.out _ _ hrr
            have HK2 := Lib.hid h1
            clear hrr h1 HTK HER
            have HBX : Hid (TokBox (W1.alloc (.cells #[.int .i64 tk, .int .i64 (pos : Int), .string ⟨tt.toArray⟩, .int .i64 tn] 31 (0, 0))) W1.heap.size tk pos ⟨tt.toArray⟩ tn) := Lib.hid (box_at W1 _ _ rfl)
            have HN1a := Lib.hid (HN1.out.below (below_one' (w := W1) (.cells #[.int .i64 tk, .int .i64 (pos : Int), .string ⟨tt.toArray⟩, .int .i64 tn] 31 (0, 0))))
            go_upto_region 11 with fail
            generalize W1.alloc (.cells #[.int .i64 tk, .int .i64 (pos : Int), .string ⟨tt.toArray⟩, .int .i64 tn] 31 (0, 0)) = w5 at *
            generalize W1.heap.size = bx at *
            obtain ⟨c0, c1, c2, c3, _⟩ := HBX.out.cells
            have hbl := box_lt HBX.out
            have hown : Hid ((w5.alloc (.cells #[.int .i64 tk, .int .i64 (pos : Int), .string ⟨tt.toArray⟩, .int .i64 tn] 31 (0, 0))).ownsRow w.heap.size 31 4 vt T.length (tokCells T)) := Lib.hid (World.ownsRow.alloc HN1a.out.1 _)
            have hsrc := Lib.hid (tok_cells4 w5 tk (pos : Int) tn ⟨tt.toArray⟩)
            have hone := Lib.hid (tok_one tk (pos : Int) tn ⟨tt.toArray⟩)
            have hbw : w.heap.size ≤ (w5.alloc (.cells #[.int .i64 tk, .int .i64 (pos : Int), .string ⟨tt.toArray⟩, .int .i64 tn] 31 (0, 0))).heap.size := by have := HN1a.out.2.size; simp; omega
            have HN2 := Lib.hid (HN1a.out.below (below_one' (.cells #[.int .i64 tk, .int .i64 (pos : Int), .string ⟨tt.toArray⟩, .int .i64 tn] 31 (0, 0))))
            go_wp2_with (at_builtin; refine wpList_append_own_at _ rfl (.tmp 41) (.tmp 43) 23 rfl w.heap.size 31 i0 _ 4 40 Tryd.underlying23 hi0 hz0 hz1 hz2 rfl (by decide) _ _ _ rfl hown.out ⟨w5.heap.size, 0, none⟩ 1 1 [.int .i64 tk, .int .i64 (pos : Int), .string ⟨tt.toArray⟩, .int .i64 tn] rfl rfl hsrc.out hone.out (by unfold maxLen; omega) (by omega) hbw ?_)
            intro v1 w4 hown1 hgr1 hnn1 hat1
            have HN3 := Lib.hid (HN2.out.push hgr1 hown1)
            clear hown1 hgr1 hnn1 hat1 hown hsrc hone hbw HN2 HN1 HN1a c0 c1 c2 c3 hbl HBX
            go_wp2_with fail
            go_roundw
            case rel => exact ⟨T ++ [(⟨tk, tt, tn⟩, pos)], pos + n, v1, rfl, by first | rfl | go_num, by omega, by rw [List.length_append]; simp; omega, HN3, HK2⟩
            case measure => simp [intOf]; omega
          · obtain ⟨h1, h2⟩ := HER.out _ hrr
            have HE := Lib.hid h1
            have B1 : (er != 0) = true := by rw [bne_iff_ne]; omega
            clear hrr h1 HTK HER
            go_wp2_with fail
            exact bodyPost_ret (v := .tuple #[.slice none 0 0, .int .i64 er, .int .i64 (pos : Int)]) (by simp [results, Tryd.results10, go_sem]) rfl (lexMade_bad HE.out (HN1.out.2.alloc HN1.out.2.size _))
      · have g1 : decide ((pos : Int) < (s.size : Int)) = false := decide_eq_false (by omega)
        obtain rfl : pos = s.size := by omega
        have HE := Lib.hid (HK.out.stop hs)
        have hown : Hid ((wr.alloc (.cells #[.int .i64 0, .int .i64 (s.size : Int), .string ⟨#[]⟩, .int .i64 0] 31 (0, 0))).ownsRow w.heap.size 31 4 vt T.length (tokCells T)) := Lib.hid (World.ownsRow.alloc HS.out.1 _)
        have hsrc := Lib.hid (tok_cells4 wr 0 (s.size : Int) 0 ⟨#[]⟩)
        have hone := Lib.hid (tok_one 0 (s.size : Int) 0 ⟨#[]⟩)
        have hbw : w.heap.size ≤ (wr.alloc (.cells #[.int .i64 0, .int .i64 (s.size : Int), .string ⟨#[]⟩, .int .i64 0] 31 (0, 0))).heap.size := by have := HS.out.2.size; simp; omega
        have HN2 := Lib.hid (HS.out.below (below_one' (.cells #[.int .i64 0, .int .i64 (s.size : Int), .string ⟨#[]⟩, .int .i64 0] 31 (0, 0))))
        clear HK HS
        go_wp2_with (at_builtin; refine wpList_append_own_at _ rfl (.tmp 46) (.tmp 49) 23 rfl w.heap.size 31 i0 _ 4 40 Tryd.underlying23 hi0 hz0 hz1 hz2 rfl (by decide) _ _ _ rfl hown.out ⟨wr.heap.size, 0, none⟩ 1 1 [.int .i64 0, .int .i64 (s.size : Int), .string ⟨#[]⟩, .int .i64 0] (by first | rfl | simp) rfl hsrc.out hone.out (by unfold maxLen; omega) (by omega) hbw ?_)
        intro v1 w4 hown1 hgr1 hnn1 hat1
        have HN3 := Lib.hid (HN2.out.push (x := []) hgr1 hown1)
        clear hown1 hgr1 hnn1 hat1 hown hsrc hone hbw HN2
        go_wp2_with fail
        exact bodyPost_ret (v := .tuple #[v1, .int .i64 0, .int .i64 0]) (by simp [results, Tryd.results10, go_sem]) rfl (lexMade_ok HE.out HN3.out.1 HN3.out.2)
end Go.Proofs.YtigbapkdpaahjaaDoor
