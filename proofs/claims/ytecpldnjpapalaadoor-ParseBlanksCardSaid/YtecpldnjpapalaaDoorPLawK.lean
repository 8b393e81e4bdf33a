/-
  The law ParseBlanks: the walk.
-/
import Derived.Test.YtecpldnjpapalaaDoorPBoth
import Derived.Test.YtecpldnjpapalaaDoorGLexB
namespace Go.Proofs.YtecpldnjpapalaaDoor
open Go.RowKit
attribute [local go_sem] Oper.semAt_some
theorem lexGo_textlenP (b p : Nat) (l : List UInt8) : ∀ T, l.length ≤ b → lexGo p 0 l = .ok T → ∀ x ∈ T, (tokText x.1).length ≤ b := by
  refine lexGo_ind (fun p l => ∀ T, l.length ≤ b → lexGo p 0 l = .ok T → ∀ x ∈ T, (tokText x.1).length ≤ b) ?_ ?_ ?_ ?_ l.length p l (Nat.le_refl _)
  · intro p T _ h x hx
    obtain rfl : [] = T := LR.ok.inj h
    cases hx
  · intro p c r hc ih T hl h x hx
    rw [lexGo_blank hc] at h
    rw [List.length_cons] at hl
    exact ih T (by omega) h x hx
  · intro p c r e hc h T _ hT
    rw [lexGo_err hc _ h] at hT; cases hT
  · intro p c r t n hc h ih T hl hT x hx
    rw [lexGo_tok hc _ h] at hT
    obtain ⟨U, hU, rfl⟩ := LR.add_ok hT
    rcases List.mem_append.1 hx with hx | hx
    · obtain rfl := List.mem_singleton.1 hx
      obtain ⟨h1, _⟩ := oneV_tok h
      show (tokText t).length ≤ b
      rw [← h1, List.length_take]
      omega
    · exact ih U (by rw [List.length_drop]; omega) hU x hx
theorem end_smallP : Small 1000000 ⟨0, [], 0⟩ ∧ (tokText ⟨0, [], 0⟩).length ≤ 4096 := ⟨⟨by decide, by decide, by decide⟩, by decide⟩
/-- Tokens and the end, as the laws go through them: each is small. -/
theorem toks_atP {l : List UInt8} {X : List (TK × Nat)} (h : lexGo 0 0 l = .ok X) (hl : l.length ≤ 4096) (i : Nat) (hi : i < X.length + 1) : ∃ t : TK × Nat, (X ++ [((⟨0, [], 0⟩ : TK), l.length)])[i]? = some t ∧ Small 1000000 t.1 ∧ (tokText t.1).length ≤ 4096 := by
  have hm : i < (X ++ [((⟨0, [], 0⟩ : TK), l.length)]).length := by simp; omega
  refine ⟨_, List.getElem?_eq_getElem hm, ?_⟩
  rcases List.mem_append.1 (List.getElem_mem hm) with hx | hx
  · exact ⟨(lexGo_small 4096 0 l X hl h _ hx).mono (by decide), lexGo_textlenP 4096 0 l X hl h _ hx⟩
  · have he := List.mem_singleton.1 hx
    rw [he]
    exact end_smallP
theorem text_sizeP (t : TK) : (⟨(tokText t).toArray⟩ : ByteArray).size = (tokText t).length := by show (tokText t).toArray.size = _; rw [List.size_toArray]
/-- The text of the first i tokens, two blanks behind each. -/
def Told2 (TX : List (TK × Nat)) (i : Nat) (o : ByteArray) : Prop := o.data.toList = spaced2 ((TX.take i).map (·.1))
theorem Told2.start (TX : List (TK × Nat)) : Told2 TX 0 ⟨#[]⟩ := rfl
theorem Told2.more {TX : List (TK × Nat)} {i : Nat} {o : ByteArray} {t : TK × Nat} (h : Told2 TX i o) (ht : TX[i]? = some t) : Told2 TX (i + 1) (o ++ (⟨(tokText t.1).toArray⟩ ++ ⟨#[32, 10]⟩)) := by
  unfold Told2 at h ⊢
  obtain ⟨hi1, hi2⟩ := List.getElem?_eq_some_iff.1 ht
  rw [joined, joined, h, List.take_succ_eq_append_getElem hi1, List.map_append, hi2]
  unfold spaced2
  rw [List.flatMap_append]
  simp
theorem told2_end {X : List (TK × Nat)} {q : Nat} {o : ByteArray} (h : Told2 (X ++ [((⟨0, [], 0⟩ : TK), q)]) (X.length + 1) o) : o.data.toList = spaced2 (X.map (·.1)) ++ [32, 10] := by
  unfold Told2 at h
  rw [h, List.take_of_length_le (by simp), List.map_append]
  unfold spaced2
  rw [List.flatMap_append]
  rfl
theorem blanks_rel {s o : ByteArray} {X : List Tok} (hX : lexGo 0 0 s.data.toList = .ok X) (hl : s.data.toList.length ≤ 4096) (h : Told2 (X ++ [((⟨0, [], 0⟩ : TK), s.size)]) (X.length + 1) o) : (4096 < o.size → (ParseV o.data.toList).err = 4) ∧ (¬ 4096 < o.size → (ParseV s.data.toList).err = (ParseV o.data.toList).err ∧ (ParseV s.data.toList).tree.er = (ParseV o.data.toList).tree.er) := by
  have h1 := told2_end h
  have h2 : o.data.toList.length = o.size := rfl
  refine ⟨fun hb => by rw [parseV_big (by omega)]; rfl, fun hb => ?_⟩
  have h3 := parse_blanks hX hl h1 (by omega)
  exact ⟨h3.err, h3.tree⟩
set_option maxRecDepth 100000 in
set_option maxHeartbeats 4000000 in
theorem law_Blanks (s : ByteArray) (w : World) (hy : Ready w) (_hs : s.size ≤ 140737488355328) : Calls Tryd.prog 5 #[.string s] w (YesMade true w) := by
  have HY := Lib.hid hy
  clear hy
  go_enter Tryd.func5, Tryd.ntmps5
  go_wp2_with fail
  refine (awake6_any _ HY.out).mono ?_
  rintro e w1 ⟨rfl, hb1⟩
  have HB1 := Lib.hid hb1
  have HY1 := Lib.hid (HY.out.below hb1)
  clear hb1 HY
  go_wp2_with fail
  refine (lex_out s _ HY1.out.syms).mono ?_
  rintro e w2 ⟨va, ea, qa, rfl, hb2, ho⟩
  have HB2 := Lib.hid (HB1.out.trans (hb2.mono HB1.out.size))
  have HY2 := Lib.hid (HY1.out.below hb2)
  have hls : s.data.toList.length = s.size := rfl
  clear hb2 HY1 HB1
  rcases ho with ⟨rfl, rfl, hl4, X, hX, hrx⟩ | ⟨rfl, hor⟩
  · have HAT := Lib.hid (fun (i : Nat) (hi : i < X.length + 1) => toks_atP hX hl4 i hi)
    have HTE := Lib.hid (fun (o : ByteArray) (h : Told2 (X ++ [((⟨0, [], 0⟩ : TK), s.size)]) (X.length + 1) o) => blanks_rel hX hl4 h)
    have hnx := lexGo_len 0 _ X hX
    rw [hls] at HAT hrx hnx hl4
    have hl1 : (X ++ [((⟨0, [], 0⟩ : TK), s.size)]).length = X.length + 1 := by simp
    obtain ⟨Ax, cx, rfl, hvx⟩ := hrx.at_
    have HVX := Lib.hid hvx
    rw [hl1]
    clear hl1 hvx hrx hX hls
    generalize X ++ [((⟨0, [], 0⟩ : TK), s.size)] = TX at *
    generalize X.length = nx at *
    have HZ0 := Lib.hid (Below.refl w2.heap.size w2)
    have HT0 := Lib.hid (Told2.start TX)
    have hnx4 : nx ≤ 4096 := by omega
    clear hnx hl4
    go_wp2_with fail
    go_loopw [6, 26] (fun vo vi wr => ∃ (i : Nat) (o : ByteArray), i ≤ nx + 1 ∧ vi = .int .i64 i ∧ vo = .string o ∧ o.size ≤ i * 5000 ∧ Hid (Told2 TX i o) ∧ Hid (Below w2.heap.size w2 wr)) (fun _ vi _ => (nx + 1) - (intOf vi).toNat)
    case atStart => exact ⟨0, _, by omega, by go_num, rfl, Nat.le_refl _, HT0, HZ0⟩
    case round =>
      obtain ⟨i, o, hi, rfl, rfl, hoz, HT, HW⟩ := hrel
      clear HT0 HZ0
      by_cases hi2 : i < nx + 1
      · as_aux_lemma =>
          obtain ⟨⟨t, ta⟩, hx1, hsm, htl⟩ := HAT.out i hi2
          have h1 : decide ((i : Int) < (nx : Int) + 1) = true := decide_eq_true (by omega)
          have h3 : (i : Int) < (nx : Int) + 1 := by omega
          have h4 : (0 : Int) ≤ (i : Int) := by omega
          obtain ⟨gx, rfl, _, _, xl, x0, x1, x2, x3⟩ := HVX.out wr i _ hx1 HW.out
          simp only at x0 x1 x2 x3 hsm htl
          have HTX := Lib.hid (fun W => ref_TokText t (ta : Int) W hsm)
          have HN := Lib.hid (HT.out.more hx1)
          have hts := text_sizeP t
          unfold tokAgg at HTX
          simp only at HN
          have hns : (o ++ ((⟨(tokText t).toArray⟩ : ByteArray) ++ ⟨#[32, 10]⟩)).size ≤ (i + 1) * 5000 := by
            rw [ByteArray.size_append, ByteArray.size_append, hts]
            show o.size + ((tokText t).length + 2) ≤ _
            omega
          generalize tokText t = tx at *
          obtain ⟨tk, tt, tn⟩ := t
          simp only at x0 x1 x2 x3 HTX
          have n1 : ¬ 9223372036854775807 < (⟨tx.toArray⟩ : ByteArray).size + 2 := by omega
          have n2 : ¬ 9223372036854775807 < o.size + ((⟨tx.toArray⟩ : ByteArray).size + 2) := by omega
          have n3 : ¬ 9223372036854775807 < tx.length + 2 := by omega
          have n4 : ¬ 9223372036854775807 < o.size + (tx.length + 2) := by omega
          have HNS := Lib.hid hns
          clear hx1 hsm htl hts hns hi
          go_wp2_with fail
          refine (HTX.out _).mono ?_
          rintro e w5 ⟨rfl, hb5⟩
          have HV := Lib.hid (HW.out.trans (hb5.mono HW.out.size))
          clear hb5 HTX x0 x1 x2 x3 xl
          go_wp2_with fail
          go_roundw
          case rel => exact ⟨i + 1, _, by omega, by go_num, rfl, HNS.out, HN, HV⟩
          case measure => simp [intOf]; omega
      · have h1 : decide ((i : Int) < (nx : Int) + 1) = false := decide_eq_false (by omega)
        obtain rfl : i = nx + 1 := by omega
        have HO := Lib.hid (HTE.out o HT.out)
        have HYw := Lib.hid (HY2.out.below HW.out)
        have HBw := Lib.hid (HB2.out.trans (HW.out.mono HB2.out.size))
        clear hi hi2 HT HTE HAT HVX HB2 HW HY2
        go_wp2_with fail
        clear h1
        refine (p_parse_t s _ HYw.out).mono ?_
        rintro e w3 ⟨hb2, s1, rfl, hi⟩
        have HB2 := Lib.hid (HBw.out.trans (hb2.mono HBw.out.size))
        have HY := Lib.hid (HYw.out.below hb2)
        have HI := Lib.hid hi
        clear hb2 hi HBw HYw
        generalize ParseV s.data.toList = r1 at *
        unfold exOf exV
        go_wp2_with fail
        all_goals
          obtain ⟨W2, hW2⟩ : ∃ W, w3.alloc (exObj r1.tree s1) = W := ⟨_, rfl⟩
          have hbx := below_one' (w := w3) (exObj r1.tree s1)
          have HX : Hid (InBox W2 w3.heap.size r1.tree s1) := Lib.hid (by rw [← hW2]; exact InBox.new HI.out)
          rw [hW2] at hbx
          have HB3 := Lib.hid (HB2.out.trans (hbx.mono HB2.out.size))
          have HY3 := Lib.hid (HY.out.below hbx)
          unfold exObj at hW2
          try rw [hW2]
          clear hW2 hbx HB2 HI
          generalize w3.heap.size = bx at *
          refine (p_parse_t _ _ HY3.out).mono ?_
          rintro e w4 ⟨hb3, s2, rfl, hi⟩
          have HB4 := Lib.hid (HB3.out.trans (hb3.mono HB3.out.size))
          have HX4 := Lib.hid (HX.out.below hb3)
          have HI := Lib.hid hi
          clear hb3 hi HB3 HX
          generalize ParseV o.data.toList = r2 at *
          unfold exOf exV
          go_upto_region 14 with fail
          all_goals
            obtain ⟨W4, hW4⟩ : ∃ W, w4.alloc (exObj r2.tree s2) = W := ⟨_, rfl⟩
            have hbx := below_one' (w := w4) (exObj r2.tree s2)
            have HZ : Hid (InBox W4 w4.heap.size r2.tree s2) := Lib.hid (by rw [← hW4]; exact InBox.new HI.out)
            rw [hW4] at hbx
            have HB5 := Lib.hid (HB4.out.trans (hbx.mono HB4.out.size))
            have HX5 := Lib.hid (HX4.out.below hbx)
            unfold exObj at hW4
            try rw [hW4]
            clear hW4 hbx HB4 HX4 HI HY HY3
            generalize w4.heap.size = bz at *
            by_cases hbig : 4096 < o.size
            · have g3 : decide (4096 < (o.size : Int)) = true := decide_eq_true (by omega)
              have g3' : decide (4096 < o.size) = true := decide_eq_true hbig
              have e2 : (r2.err == 4) = true := by rw [beq_iff_eq]; exact HO.out.1 hbig
              go_wp2_with fail
              all_goals
                go_ret
                exact ⟨by first | rfl | rw [e2], HB5.out⟩
            · have g3 : decide (4096 < (o.size : Int)) = false := decide_eq_false (by omega)
              have g3' : decide (4096 < o.size) = false := decide_eq_false hbig
              obtain ⟨h1, h2⟩ := HO.out.2 hbig
              have e1 : (r1.err == r2.err) = true := by rw [beq_iff_eq]; exact h1
              have HC := r_same_any false r1.tree r2.tree s1 s2 W4 HX5.out.tree HZ.out.tree
              rw [(alike_er _ _).2 h2] at HC
              unfold exOf exV at HC
              replace HC := Lib.hid HC
              obtain ⟨f0, f1, f2, f3, f4, f5, f6, f7, _⟩ := Box8.cells HX5.out.box
              have fl := HX5.out.box.lt
              obtain ⟨g0, g1, g2, g3, g4, g5, g6, g7, _⟩ := Box8.cells HZ.out.box
              have gl := HZ.out.box.lt
              clear h1 h2 HO
              go_wp2_with fail
              refine HC.out.mono ?_
              rintro e w5 ⟨rfl, hb5⟩
              have HB6 := Lib.hid (HB5.out.trans (hb5.mono HB5.out.size))
              clear hb5
              go_wp2_with fail
              go_ret
              exact ⟨rfl, HB6.out⟩
  · have A1 : (ea != 0) = true := by rw [bne_iff_ne]; omega
    clear hor
    go_wp2_with fail
    go_ret
    exact ⟨rfl, HB2.out⟩
end Go.Proofs.YtecpldnjpapalaaDoor
