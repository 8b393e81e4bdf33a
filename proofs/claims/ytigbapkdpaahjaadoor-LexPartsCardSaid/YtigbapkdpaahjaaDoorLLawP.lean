/-
  The walk of the law LexParts: whatever the input, it returns true and leaves what was there as it was. Condition: the variable of the signs holds what its initialiser lays.
-/
import Derived.Test.YtigbapkdpaahjaaDoorLLawK
namespace Go.Proofs.YtigbapkdpaahjaaDoor
open Go.RowKit
theorem blank_at {s : ByteArray} {p n : Nat} (h : ∀ c ∈ (s.data.toList.drop p).take n, isBlank c = true) (k : Nat) (hk : k < s.size) (h1 : p ≤ k) (h2 : k < p + n) : isBlank (s[k]'hk) = true := by
  refine h _ ?_
  have hl : s.data.toList.length = s.size := rfl
  rw [List.mem_iff_getElem]
  refine ⟨k - p, by rw [List.length_take, List.length_drop]; omega, ?_⟩
  rw [List.getElem_take, List.getElem_drop]
  have : p + (k - p) = k := by omega
  simp only [this]
  rfl
theorem parts_at {s : ByteArray} {X : List (TK × Nat)} {i p : Nat} (h : Stand s.data.toList p (X.drop i)) (hi : i < X.length) : p ≤ X[i].2 ∧ X[i].2 + (tokText X[i].1).length ≤ s.size ∧ (∀ k (hk : k < s.size), p ≤ k → k < X[i].2 → isBlank (s[k]'hk) = true) ∧ s.extract X[i].2 (X[i].2 + (tokText X[i].1).length) = ⟨(tokText X[i].1).toArray⟩ ∧ Stand s.data.toList (X[i].2 + (tokText X[i].1).length) (X.drop (i + 1)) := by
  rw [List.drop_eq_getElem_cons hi] at h
  obtain ⟨h1, h2, h3, h4, h5⟩ := h
  simp only [List.get_eq_getElem] at h1 h2 h3 h4 h5
  have hl : s.data.toList.length = s.size := rfl
  refine ⟨h1, h2, fun k hk h6 h7 => blank_at h3 k hk h6 (by omega), ?_, h5⟩
  have h9 : (s.extract X[i].2 (X[i].2 + (tokText X[i].1).length)).data.toList = (s.data.toList.drop X[i].2).take (tokText X[i].1).length := by
    rw [Lib.extract_data, Nat.add_sub_cancel_left]
  rw [h4] at h9
  have h8 := bytes_back (s.extract X[i].2 (X[i].2 + (tokText X[i].1).length))
  rw [h9] at h8
  exact h8.symm
theorem parts_end {s : ByteArray} {X : List (TK × Nat)} {p : Nat} (h : Stand s.data.toList p (X.drop X.length)) : p ≤ s.size ∧ ∀ k (hk : k < s.size), p ≤ k → isBlank (s[k]'hk) = true := by
  rw [List.drop_length] at h
  obtain ⟨h1, h2⟩ := h
  have hl : s.data.toList.length = s.size := rfl
  refine ⟨h1, fun k hk h3 => blank_at (n := s.size) (fun c hc => h2 c (List.mem_of_mem_take hc)) k hk h3 (by omega)⟩
theorem wrap_sum (a b c : Nat) (h : a + b = c) (hc : c ≤ 10000000) : wrap64 ((a : Int) + (b : Int)) = (c : Int) := by unfold wrap64; omega
/-- Before the i-th token: what has been looked at ends at p. -/
def PartAt (s : ByteArray) (X : List (TK × Nat)) (i p : Nat) : Prop := (i ≤ X.length ∧ Stand s.data.toList p (X.drop i)) ∨ (i = X.length + 1 ∧ p = s.size)
theorem PartAt.start {s : ByteArray} {X : List (TK × Nat)} (h : lexGo 0 0 s.data.toList = .ok X) : PartAt s X 0 0 := .inl ⟨Nat.zero_le _, lexGo_stand _ 0 _ rfl X (Nat.zero_le _) h⟩
/-- The i-th token, or the end. -/
theorem PartAt.here {s : ByteArray} {X : List (TK × Nat)} {i p : Nat} (hX : lexGo 0 0 s.data.toList = .ok X) (hs : s.size ≤ 4096) (h : PartAt s X i p) (hi : i < X.length + 1) :
    ∃ (t : TK) (q : Nat), (X ++ [((⟨0, [], 0⟩ : TK), s.size)])[i]? = some (t, q) ∧ Small 1000000 t ∧ p ≤ q ∧ q ≤ s.size ∧ (∀ k (hk : k < s.size), p ≤ k → k < q → isBlank (s[k]'hk) = true) ∧
      ((1 ≤ t.kind ∧ i < X.length ∧ q + (tokText t).length ≤ s.size ∧ s.extract q (q + (tokText t).length) = ⟨(tokText t).toArray⟩ ∧ PartAt s X (i + 1) (q + (tokText t).length)) ∨ (t.kind = 0 ∧ i = X.length ∧ PartAt s X (i + 1) q)) := by
  have hl : s.data.toList.length = s.size := rfl
  rcases h with ⟨h1, h2⟩ | ⟨h1, _⟩
  · by_cases hx : i < X.length
    · obtain ⟨a1, a2, a3, a4, a5⟩ := parts_at h2 hx
      exact ⟨X[i].1, X[i].2, by rw [List.getElem?_append_left hx, List.getElem?_eq_getElem hx], (lexGo_small 4096 0 _ X (by omega) hX _ (List.getElem_mem hx)).mono (by decide), a1, by omega, a3, .inl ⟨(lexGo_good 0 _ X hX _ (List.getElem_mem hx)).2, hx, a2, a4, .inl ⟨hx, a5⟩⟩⟩
    · obtain rfl : i = X.length := by omega
      obtain ⟨a1, a2⟩ := parts_end h2
      exact ⟨⟨0, [], 0⟩, s.size, by simp, end_small.1, a1, Nat.le_refl _, fun k hk h3 _ => a2 k hk h3, .inr ⟨rfl, rfl, .inr ⟨rfl, rfl⟩⟩⟩
  · omega
set_option maxRecDepth 100000 in
set_option maxHeartbeats 4000000 in
theorem law_LexParts (s : ByteArray) (w : World) (hy : Syms w) (_hs : s.size ≤ 140737488355328) : Calls Tryd.prog 5 #[.string s] w (YesMade true w) := by
  have HY := Lib.hid hy
  clear hy
  go_enter Tryd.func5, Tryd.ntmps5
  go_wp2_with fail
  refine (awake5_any _ HY.out).mono ?_
  rintro e w1 ⟨rfl, hb1⟩
  have HB1 := Lib.hid hb1
  have HY1 := Lib.hid (HY.out.below hb1)
  clear hb1 HY
  go_wp2_with fail
  refine (lex_out s _ HY1.out).mono ?_
  rintro e w2 ⟨va, ea, qa, rfl, hb2, ho⟩
  have HB2 := Lib.hid (HB1.out.trans (hb2.mono HB1.out.size))
  have hls : s.data.toList.length = s.size := rfl
  clear hb2 HY1 HB1
  rcases ho with ⟨rfl, rfl, hl4, X, hX, hrx⟩ | ⟨rfl, hor⟩
  · have hnx := lexGo_len 0 _ X hX
    rw [hls] at hrx hnx hl4
    have HPH := Lib.hid (fun (i p : Nat) (h : PartAt s X i p) (hi : i < X.length + 1) => h.here hX hl4 hi)
    have HP0 := Lib.hid (PartAt.start hX)
    have HPE := Lib.hid (fun (p : Nat) (h : PartAt s X (X.length + 1) p) => (show p = s.size by rcases h with ⟨h, _⟩ | ⟨_, h⟩; omega; exact h))
    have hl1 : (X ++ [((⟨0, [], 0⟩ : TK), s.size)]).length = X.length + 1 := by simp
    obtain ⟨Ax, cx, rfl, hvx⟩ := hrx.at_
    have HVX := Lib.hid hvx
    rw [hl1]
    clear hl1 hvx hrx hX hls
    generalize X ++ [((⟨0, [], 0⟩ : TK), s.size)] = TX at *
    generalize hnx' : X.length = nx at *
    clear hnx'
    have HZ0 := Lib.hid (Below.refl w2.heap.size w2)
    have hnx4 : nx ≤ 4096 := by omega
    clear hnx
    go_wp2_with fail
    go_loopw [6, 39] (fun vp vi wr => ∃ (i p : Nat), i ≤ nx + 1 ∧ vi = .int .i64 i ∧ vp = .int .i64 p ∧ Hid (PartAt s X i p) ∧ Hid (Below w2.heap.size w2 wr)) (fun _ vi _ => (nx + 1) - (intOf vi).toNat)
    case atStart => exact ⟨0, 0, by omega, by go_num, by go_num, HP0, HZ0⟩
    case round =>
      obtain ⟨i, p, hi, rfl, rfl, HP, HW⟩ := hrel
      clear HP0 HZ0
      by_cases hi2 : i < nx + 1
      · obtain ⟨⟨tk, tt, tn⟩, q, hx1, hsm, hpq, hqs, hbl, hor⟩ := HPH.out i p HP.out hi2
        have h1 : decide ((i : Int) < (nx : Int) + 1) = true := decide_eq_true (by omega)
        have h3 : (i : Int) < (nx : Int) + 1 := by omega
        have h4 : (0 : Int) ≤ (i : Int) := by omega
        obtain ⟨gx, rfl, _, _, xl, x0, x1, x2, x3⟩ := HVX.out wr i _ hx1 HW.out
        simp only at x0 x1 x2 x3
        have HTX := Lib.hid (fun W => ref_TokText ⟨tk, tt, tn⟩ (q : Int) W hsm)
        unfold tokAgg at HTX
        simp only at HTX
        have HBL := Lib.hid hbl
        have HOR := Lib.hid hor
        have B1 : decide ((q : Int) < (p : Int)) = false := decide_eq_false (by omega)
        have B2 : decide ((s.size : Int) < (q : Int)) = false := decide_eq_false (by omega)
        have HB3 : Hid (((tk == 0) = true ∧ ((i : Int) == (nx : Int)) = true) ∨ ((tk == 0) = false ∧ ((i : Int) == (nx : Int)) = false)) := Lib.hid (by
          rcases hor with ⟨a, b, _⟩ | ⟨a, b, _⟩
          · exact .inr ⟨by rw [beq_eq_false_iff_ne]; simp only at a; omega, by rw [beq_eq_false_iff_ne]; omega⟩
          · exact .inl ⟨by rw [beq_iff_eq]; exact a, by rw [beq_iff_eq]; omega⟩)
        have HE3 := Lib.hid (splits_len nx nx hnx4 hnx4).2
        have E3 := HE3.out
        clear hx1 hsm hbl hor HP
        have hps : p ≤ s.size := by omega
        have hkb : i ≤ 10000 := by omega
        obtain ⟨wo, hwo⟩ : ∃ wo, wo = wr := ⟨wr, rfl⟩
        have HIN : Hid (Below w2.heap.size w2 wo) := Lib.hid (by rw [hwo]; exact HW.out)
        rcases HB3.out with ⟨B3, B4⟩ | ⟨B3, B4⟩
        · as_aux_lemma =>
            clear HB3
            go_upto_region 12 with fail
            clear B4 B1 B2
            go_wp2_with fail
            go_loopw [8] (fun vk w5 => ∃ k : Nat, p ≤ k ∧ k ≤ q ∧ vk = .int .i64 k ∧ w5 = wo) (fun vk _ => q - (intOf vk).toNat)
            case atStart => exact ⟨p, Nat.le_refl _, hpq, by go_num, hwo.symm⟩
            case round =>
              obtain ⟨k, hk1, hk2, rfl, rfl⟩ := hrel
              subst hwo
              by_cases hkq : k < q
              · have hks : k < s.size := by omega
                have h2 : decide ((k : Int) < (q : Int)) = true := decide_eq_true (by omega)
                have h5 : (k : Int) < (s.size : Int) := by omega
                have h6 : (0 : Int) ≤ (k : Int) := by omega
                have hix := fun W => index_at s k hks k rfl W
                have hb := HBL.out k hks hk1 hkq
                have hkb2 : k ≤ 4096 := by omega
                have HKQ := Lib.hid (⟨by omega, by omega⟩ : p ≤ k + 1 ∧ k + 1 ≤ q)
                unfold isBlank at hb
                simp only [Bool.or_eq_true, decide_eq_true_eq] at hb
                generalize s[k] = c at *
                rcases hb with rfl | rfl
                all_goals
                  go_wp2_with fail
                  go_roundw
                  case rel => exact ⟨k + 1, HKQ.out.1, HKQ.out.2, by go_num, by trivial⟩
                  case measure => simp [intOf]; omega
              · obtain rfl : k = q := by omega
                have h2 : decide ((k : Int) < (k : Int)) = false := decide_eq_false (by omega)
                obtain ⟨hk3, hix, hnext⟩ := HOR.out.resolve_left (fun h => by have h8 : 1 ≤ tk := h.1; have h9 : tk = 0 := beq_iff_eq.1 B3; omega)
                have B5 : (tk != 0) = false := by simp [bne, B3]
                have HN := Lib.hid hnext
                clear hk3 hix hnext HOR
                go_upto_region 17 with fail
                clear h2 hkq
                go_wp2_with fail
                go_roundw
                case rel => exact ⟨i + 1, k, by omega, by go_num, rfl, HN, HIN⟩
                case measure => simp [intOf]; omega
        · as_aux_lemma =>
            clear HB3
            go_upto_region 12 with fail
            clear B4 B1 B2
            go_wp2_with fail
            go_loopw [8] (fun vk w5 => ∃ k : Nat, p ≤ k ∧ k ≤ q ∧ vk = .int .i64 k ∧ w5 = wo) (fun vk _ => q - (intOf vk).toNat)
            case atStart => exact ⟨p, Nat.le_refl _, hpq, by go_num, hwo.symm⟩
            case round =>
              obtain ⟨k, hk1, hk2, rfl, rfl⟩ := hrel
              subst hwo
              by_cases hkq : k < q
              · have hks : k < s.size := by omega
                have h2 : decide ((k : Int) < (q : Int)) = true := decide_eq_true (by omega)
                have h5 : (k : Int) < (s.size : Int) := by omega
                have h6 : (0 : Int) ≤ (k : Int) := by omega
                have hix := fun W => index_at s k hks k rfl W
                have hb := HBL.out k hks hk1 hkq
                have hkb2 : k ≤ 4096 := by omega
                have HKQ := Lib.hid (⟨by omega, by omega⟩ : p ≤ k + 1 ∧ k + 1 ≤ q)
                unfold isBlank at hb
                simp only [Bool.or_eq_true, decide_eq_true_eq] at hb
                generalize s[k] = c at *
                rcases hb with rfl | rfl
                all_goals
                  go_wp2_with fail
                  go_roundw
                  case rel => exact ⟨k + 1, HKQ.out.1, HKQ.out.2, by go_num, by trivial⟩
                  case measure => simp [intOf]; omega
              · obtain rfl : k = q := by omega
                have h2 : decide ((k : Int) < (k : Int)) = false := decide_eq_false (by omega)
                obtain ⟨hk3, hix, hsz, hext, hnext⟩ := HOR.out.resolve_right (fun h => by have h9 := beq_iff_eq.2 h.1; rw [B3] at h9; cases h9)
                have B5 : (tk != 0) = true := by simp [bne, B3]
                have HN := Lib.hid hnext
                have hts := text_size ⟨tk, tt, tn⟩
                generalize tokText ⟨tk, tt, tn⟩ = tx at *
                have HSZ := Lib.hid hsz
                have HXT := Lib.hid hext
                have HTS := Lib.hid hts
                clear hk3 hix hnext HOR hsz hext hts
                go_upto_region 17 with fail
                clear h2 hkq
                go_upto_region 19 with fail
                clear B5 B3
                go_wp2_with fail
                refine (HTX.out _).mono ?_
                rintro e w6 ⟨rfl, hb6⟩
                have HV := Lib.hid (HIN.out.trans (hb6.mono HIN.out.size))
                have hts := HTS.out
                obtain ⟨kn, hkn⟩ : ∃ kn, k + tx.length = kn := ⟨_, rfl⟩
                have hsz := HSZ.out
                rw [hkn] at hsz
                have hkk : k ≤ kn := by omega
                have HE5 := Lib.hid (wrap_sum k tx.length kn hkn (by omega))
                have HX2 : Hid (s.extract k kn = ⟨tx.toArray⟩) := Lib.hid (by rw [← hkn]; exact HXT.out)
                have HN2 : Hid (PartAt s X (i + 1) kn) := Lib.hid (by rw [← hkn]; exact HN.out)
                have HI2 : Hid (i + 1 ≤ nx + 1) := Lib.hid (by omega)
                clear hb6 x0 x1 x2 x3 xl HTX HBL HPE HPH HVX HW h1 h3 h4 hpq hqs hl4 hnx4 hps E3 hkn HSZ HTS HXT HN hk1 hk2
                go_upto_region 20 with fail
                have B6 : decide ((s.size : Int) < (kn : Int)) = false := decide_eq_false (by omega)
                have B7 : decide (s.size < kn) = false := decide_eq_false (by omega)
                have E5 := HE5.out
                have hext := HX2.out
                go_upto_region 22 with fail
                clear B6 B7 hext
                go_wp2_with fail
                go_roundw
                case rel => exact ⟨i + 1, kn, HI2.out, by go_num, by rw [HE5.out], HN2.out, HV⟩
                case measure => simp [intOf]; omega
      · have h1 : decide ((i : Int) < (nx : Int) + 1) = false := decide_eq_false (by omega)
        obtain rfl : i = nx + 1 := by omega
        have hpe := HPE.out p HP.out
        subst hpe
        have HEB := Lib.hid (HB2.out.trans (HW.out.mono HB2.out.size))
        go_wp2_with fail
        go_ret
        exact ⟨rfl, HEB.out⟩
  · have hq : qa < s.size ∨ ea = 4 := by rcases hor with ⟨h, _⟩ | ⟨_, _, h, _⟩; exact .inr h; exact .inl h
    have A1 : (ea != 0) = true := by rw [bne_iff_ne]; omega
    have g5 : decide ((0 : Int) ≤ (qa : Int)) = true := decide_eq_true (by omega)
    clear hor
    rcases hq with hq | rfl
    · have g4 : decide ((qa : Int) < (s.size : Int)) = true := decide_eq_true (by omega)
      go_wp2_with fail
      go_ret
      exact ⟨rfl, HB2.out⟩
    · by_cases hq : qa < s.size
      · have g4 : decide ((qa : Int) < (s.size : Int)) = true := decide_eq_true (by omega)
        go_wp2_with fail
        go_ret
        exact ⟨rfl, HB2.out⟩
      · have g4 : decide ((qa : Int) < (s.size : Int)) = false := decide_eq_false (by omega)
        go_wp2_with fail
        go_ret
        exact ⟨rfl, HB2.out⟩
end Go.Proofs.YtigbapkdpaahjaaDoor
