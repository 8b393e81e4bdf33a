/-
  The walk of the law LexBack: whatever the input, it returns true and leaves what was there as it was. Condition: the variable of the signs holds what its initialiser lays.
-/
import Derived.Test.YtigbapkdpaahjaaDoorLLawB
import Derived.Test.YtigbapkdpaahjaaDoorLTok
namespace Go.Proofs.YtigbapkdpaahjaaDoor
open Go.RowKit
theorem lexGo_textlen (b p : Nat) (l : List UInt8) : ∀ T, l.length ≤ b → lexGo p 0 l = .ok T → ∀ x ∈ T, (tokText x.1).length ≤ b := by
  refine lexGo_ind (fun p l => ∀ T, l.length ≤ b → lexGo p 0 l = .ok T → ∀ x ∈ T, (tokText x.1).length ≤ b) ?_ ?_ ?_ ?_ l.length p l (Nat.le_refl _)
  · intro p T _ h x hx
    obtain rfl : [] = T := LR.ok.inj h
    cases hx
  · intro p c r hc ih T hl h x hx
    rw [lexGo_blank hc] at h
    rw [List.length_cons] at hl
    exact ih T (by omega) h x hx
  · intro p c r e hc h T _ hT
    rw [lexGo_err hc _ h] at hT; cases hT
  · intro p c r t n hc h ih T hl hT x hx
    rw [lexGo_tok hc _ h] at hT
    obtain ⟨U, hU, rfl⟩ := LR.add_ok hT
    rcases List.mem_append.1 hx with hx | hx
    · obtain rfl := List.mem_singleton.1 hx
      obtain ⟨h1, _⟩ := oneV_tok h
      show (tokText t).length ≤ b
      rw [← h1, List.length_take]
      omega
    · exact ih U (by rw [List.length_drop]; omega) hU x hx
theorem end_small : Small 1000000 ⟨0, [], 0⟩ ∧ (tokText ⟨0, [], 0⟩).length ≤ 4096 := ⟨⟨by decide, by decide, by decide⟩, by decide⟩
/-- Tokens and the end, as the laws go through them: each is small. -/
theorem toks_at {l : List UInt8} {X : List (TK × Nat)} (h : lexGo 0 0 l = .ok X) (hl : l.length ≤ 4096) (i : Nat) (hi : i < X.length + 1) : ∃ t : TK × Nat, (X ++ [((⟨0, [], 0⟩ : TK), l.length)])[i]? = some t ∧ Small 1000000 t.1 ∧ (tokText t.1).length ≤ 4096 := by
  have hm : i < (X ++ [((⟨0, [], 0⟩ : TK), l.length)]).length := by simp; omega
  refine ⟨_, List.getElem?_eq_getElem hm, ?_⟩
  rcases List.mem_append.1 (List.getElem_mem hm) with hx | hx
  · exact ⟨(lexGo_small 4096 0 l X hl h _ hx).mono (by decide), lexGo_textlen 4096 0 l X hl h _ hx⟩
  · have he := List.mem_singleton.1 hx
    rw [he]
    exact end_small
/-- The text of the first i tokens, a blank behind each. -/
def Told (TX : List (TK × Nat)) (i : Nat) (o : ByteArray) : Prop := o.data.toList = spaced ((TX.take i).map (·.1))
theorem Told.start (TX : List (TK × Nat)) : Told TX 0 ⟨#[]⟩ := rfl
theorem Told.more {TX : List (TK × Nat)} {i : Nat} {o : ByteArray} {t : TK × Nat} (h : Told TX i o) (ht : TX[i]? = some t) : Told TX (i + 1) (o ++ (⟨(tokText t.1).toArray⟩ ++ ⟨#[32]⟩)) := by
  unfold Told at h ⊢
  have hi := (List.getElem?_eq_some_iff.1 ht)
  obtain ⟨hi1, hi2⟩ := hi
  rw [joined, joined, h, List.take_succ_eq_append_getElem hi1, List.map_append, hi2]
  unfold spaced
  rw [List.flatMap_append]
  simp
theorem told_end {X : List (TK × Nat)} {q : Nat} {o : ByteArray} (h : Told (X ++ [((⟨0, [], 0⟩ : TK), q)]) (X.length + 1) o) : o.data.toList = spaced (X.map (·.1)) ++ [32] := by
  unfold Told at h
  rw [h, List.take_of_length_le (by simp), List.map_append]
  unfold spaced
  rw [List.flatMap_append]
  rfl
theorem back_at {X U : List (TK × Nat)} (h : U.map (·.1) = X.map (·.1)) (p q i : Nat) (hi : i < X.length + 1) : ∃ (t : TK) (a b : Nat), (X ++ [((⟨0, [], 0⟩ : TK), p)])[i]? = some (t, a) ∧ (U ++ [((⟨0, [], 0⟩ : TK), q)])[i]? = some (t, b) := by
  have hl : U.length = X.length := by have := congrArg List.length h; simpa using this
  by_cases hx : i < X.length
  · have hu : i < U.length := by omega
    have h1 := congrArg (fun l => l[i]?) h
    simp only [List.getElem?_map, List.getElem?_eq_getElem hx, List.getElem?_eq_getElem hu, Option.map_some, Option.some.injEq] at h1
    refine ⟨X[i].1, X[i].2, U[i].2, by rw [List.getElem?_append_left hx, List.getElem?_eq_getElem hx], ?_⟩
    rw [List.getElem?_append_left hu, List.getElem?_eq_getElem hu, ← h1]
  · obtain rfl : i = X.length := by omega
    refine ⟨⟨0, [], 0⟩, p, q, by simp, ?_⟩
    rw [← hl]; simp
/-- What Lex gives of the tokens' texts. -/
theorem back_out {l : List UInt8} {X : List (TK × Nat)} {o : ByteArray} {B qb : Nat} {v : Value} {er : Int} {w : World} (hX : lexGo 0 0 l = .ok X) (ho : o.data.toList = spaced (X.map (·.1)) ++ [32]) (hb : ¬ 4096 < o.size) (h : LexOut o.data.toList B v er qb w) : er = 0 ∧ ∃ U, U.map (·.1) = X.map (·.1) ∧ TokRow B w v (U ++ [(⟨0, [], 0⟩, o.size)]) := by
  obtain ⟨U, hU, hm⟩ := lexGo_back 0 0 l X hX
  rw [← ho] at hU
  have hl : o.data.toList.length = o.size := rfl
  rcases h with ⟨h1, _, _, Y, h4, h5⟩ | ⟨_, ⟨_, _, h⟩ | ⟨_, _, _, h⟩⟩
  · rw [hU] at h4
    obtain rfl := LR.ok.inj h4
    exact ⟨h1, U, hm, h5⟩
  · omega
  · rw [hU] at h; cases h
theorem text_size (t : TK) : (⟨(tokText t).toArray⟩ : ByteArray).size = (tokText t).length := by show (tokText t).toArray.size = _; rw [List.size_toArray]
set_option maxRecDepth 100000 in
set_option maxHeartbeats 4000000 in
theorem law_LexBack (s : ByteArray) (w : World) (hy : Syms w) (_hs : s.size ≤ 140737488355328) : Calls Tryd.prog 4 #[.string s] w (YesMade true w) := by
  have HY := Lib.hid hy
  clear hy
  go_enter Tryd.func4, Tryd.ntmps4
  go_wp2_with fail
  refine (awake5_any _ HY.out).mono ?_
  rintro e w1 ⟨rfl, hb1⟩
  have HB1 := Lib.hid hb1
  have HY1 := Lib.hid (HY.out.below hb1)
  clear hb1 HY
  go_wp2_with fail
  refine (lex_out s _ HY1.out).mono ?_
  rintro e w2 ⟨va, ea, qa, rfl, hb2, ho⟩
  have HB2 := Lib.hid (HB1.out.trans (hb2.mono HB1.out.size))
  have HY2 := Lib.hid (HY1.out.below hb2)
  have hls : s.data.toList.length = s.size := rfl
  clear hb2 HY1 HB1
  rcases ho with ⟨rfl, rfl, hl4, X, hX, hrx⟩ | ⟨rfl, hor⟩
  · have HAT := Lib.hid (fun (i : Nat) (hi : i < X.length + 1) => toks_at hX hl4 i hi)
    have HBA := Lib.hid (fun (U : List (TK × Nat)) (hm : U.map (·.1) = X.map (·.1)) (q i : Nat) (hi : i < X.length + 1) => back_at hm s.size q i hi)
    have HTE := Lib.hid (fun (o : ByteArray) (h : Told (X ++ [((⟨0, [], 0⟩ : TK), s.size)]) (X.length + 1) o) => told_end h)
    have HBO := Lib.hid (fun (o : ByteArray) (B qb : Nat) (v : Value) (er : Int) (w : World) (ho : o.data.toList = spaced (X.map (·.1)) ++ [32]) (hb : ¬ 4096 < o.size) (h : LexOut o.data.toList B v er qb w) => back_out hX ho hb h)
    have HML := Lib.hid (fun (U : List (TK × Nat)) (hm : U.map (·.1) = X.map (·.1)) => (show U.length = X.length by have := congrArg List.length hm; simpa using this))
    have hnx := lexGo_len 0 _ X hX
    rw [hls] at HAT hrx hnx hl4
    have hl1 : (X ++ [((⟨0, [], 0⟩ : TK), s.size)]).length = X.length + 1 := by simp
    obtain ⟨Ax, cx, rfl, hvx⟩ := hrx.at_
    have HVX := Lib.hid hvx
    rw [hl1]
    clear hl1 hvx hrx hX hls
    generalize X ++ [((⟨0, [], 0⟩ : TK), s.size)] = TX at *
    generalize spaced (X.map (·.1)) ++ [32] = SX at *
    generalize X.map (·.1) = MX at *
    generalize X.length = nx at *
    have HZ0 := Lib.hid (Below.refl w2.heap.size w2)
    have HT0 := Lib.hid (Told.start TX)
    have hnx4 : nx ≤ 4096 := by omega
    clear hnx hl4
    go_wp2_with fail
    go_loopw [6, 27] (fun vo vi wr => ∃ (i : Nat) (o : ByteArray), i ≤ nx + 1 ∧ vi = .int .i64 i ∧ vo = .string o ∧ o.size ≤ i * 5000 ∧ Hid (Told TX i o) ∧ Hid (Below w2.heap.size w2 wr)) (fun _ vi _ => (nx + 1) - (intOf vi).toNat)
    case atStart => exact ⟨0, _, by omega, by go_num, rfl, Nat.le_refl _, HT0, HZ0⟩
    case round =>
      obtain ⟨i, o, hi, rfl, rfl, hoz, HT, HW⟩ := hrel
      clear HT0 HZ0
      by_cases hi2 : i < nx + 1
      · as_aux_lemma =>
          obtain ⟨⟨t, ta⟩, hx1, hsm, htl⟩ := HAT.out i hi2
          have h1 : decide ((i : Int) < (nx : Int) + 1) = true := decide_eq_true (by omega)
          have h3 : (i : Int) < (nx : Int) + 1 := by omega
          have h4 : (0 : Int) ≤ (i : Int) := by omega
          obtain ⟨gx, rfl, _, _, xl, x0, x1, x2, x3⟩ := HVX.out wr i _ hx1 HW.out
          simp only at x0 x1 x2 x3 hsm htl
          have HTX := Lib.hid (fun W => ref_TokText t (ta : Int) W hsm)
          have HN := Lib.hid (HT.out.more hx1)
          have hts := text_size t
          unfold tokAgg at HTX
          simp only at HN
          have hns : (o ++ ((⟨(tokText t).toArray⟩ : ByteArray) ++ ⟨#[32]⟩)).size ≤ (i + 1) * 5000 := by
            rw [ByteArray.size_append, ByteArray.size_append, hts]
            show o.size + ((tokText t).length + 1) ≤ _
            omega
          generalize tokText t = tx at *
          obtain ⟨tk, tt, tn⟩ := t
          simp only at x0 x1 x2 x3 HTX
          have n1 : ¬ 9223372036854775807 < (⟨tx.toArray⟩ : ByteArray).size + 1 := by omega
          have n2 : ¬ 9223372036854775807 < o.size + ((⟨tx.toArray⟩ : ByteArray).size + 1) := by omega
          have n3 : ¬ 9223372036854775807 < tx.length + 1 := by omega
          have n4 : ¬ 9223372036854775807 < o.size + (tx.length + 1) := by omega
          have HNS := Lib.hid hns
          clear hx1 hsm htl hts hns hi
          go_wp2_with fail
          refine (HTX.out _).mono ?_
          rintro e w5 ⟨rfl, hb5⟩
          have HV := Lib.hid (HW.out.trans (hb5.mono HW.out.size))
          clear hb5 HTX x0 x1 x2 x3 xl
          go_wp2_with fail
          go_roundw
          case rel => exact ⟨i + 1, _, by omega, by go_num, rfl, HNS.out, HN, HV⟩
          case measure => simp [intOf]; omega
      · have h1 : decide ((i : Int) < (nx : Int) + 1) = false := decide_eq_false (by omega)
        obtain rfl : i = nx + 1 := by omega
        have HO := Lib.hid (HTE.out o HT.out)
        have HYw := Lib.hid (HY2.out.below HW.out)
        obtain ⟨ov, rfl⟩ : ∃ ov : Value, ov = .int .i64 ((nx + 1 : Nat) : Int) := ⟨_, rfl⟩
        clear hi hi2 HT
        go_wp2_with fail
        clear h1
        refine (lex_out o _ HYw.out).mono ?_
        rintro e w6 ⟨vb, eb, qb, rfl, hb6, ho⟩
        have HP := Lib.hid ho
        have HW6 := Lib.hid (HW.out.trans (hb6.mono HW.out.size))
        have HB6 := Lib.hid (HB2.out.trans (HW6.out.mono HB2.out.size))
        clear ho hb6 HYw HW
        by_cases hbig : 4096 < o.size
        · as_aux_lemma =>
            have g3 : decide (4096 < (o.size : Int)) = true := decide_eq_true (by omega)
            have g3' : decide (4096 < o.size) = true := decide_eq_true hbig
            obtain rfl := HP.out.big hbig
            go_wp2_with fail
            go_ret
            exact ⟨rfl, HB6.out⟩
        · as_aux_lemma =>
            have g3 : decide (4096 < (o.size : Int)) = false := decide_eq_false (by omega)
            have g3' : decide (4096 < o.size) = false := decide_eq_false hbig
            obtain ⟨rfl, U, hU, hrz⟩ := HBO.out o _ _ _ _ _ HO.out hbig HP.out
            have hul := HML.out U hU
            have HG := Lib.hid (fun (i : Nat) (hi : i < nx + 1) => HBA.out U hU o.size i hi)
            obtain ⟨Az, cz, rfl, hvz⟩ := hrz.at_
            have hl2 : (U ++ [((⟨0, [], 0⟩ : TK), o.size)]).length = nx + 1 := by simp [hul]
            rw [hl2]
            have HVZ := Lib.hid hvz
            have HVX2 := Lib.hid (fun (W : World) (i : Nat) (t : TK × Nat) (ht : TX[i]? = some t) (hb : Below w6.heap.size w6 W) => HVX.out W i t ht (HW6.out.trans (hb.mono HW6.out.size)))
            generalize U ++ [((⟨0, [], 0⟩ : TK), o.size)] = TZ at *
            have A1 : ((nx : Int) + 1 != (nx : Int) + 1) = false := by simp
            have HZ6 := Lib.hid (Below.refl w6.heap.size w6)
            clear hl2 hvz hrz hU hul HBO HBA HML HP HO HAT HTE
            go_upto_region 15 with fail
            clear g3 g3' hbig hoz
            go_upto_region 17 with fail
            clear A1
            go_wp2_with fail
            go_loopw [61] (fun vk w8 => ∃ k : Nat, k ≤ nx + 1 ∧ vk = .int .i64 k ∧ Hid (Below w6.heap.size w6 w8)) (fun vk _ => (nx + 1) - (intOf vk).toNat)
            case atStart => exact ⟨0, by omega, by go_num, HZ6⟩
            case round =>
              obtain ⟨k, hk, rfl, HV⟩ := hrel
              by_cases hk2 : k < nx + 1
              · obtain ⟨⟨tk, tt, tn⟩, ta, tb, hx1, hz1⟩ := HG.out k hk2
                have h2 : decide ((k : Int) < (nx : Int) + 1) = true := decide_eq_true (by omega)
                have h3 : (k : Int) < (nx : Int) + 1 := by omega
                have h4 : (0 : Int) ≤ (k : Int) := by omega
                have E4 : IntKind.i64.wrap (k : Int) = (k : Int) := by rw [IntKind.wrap_i64]; omega
                obtain ⟨gx, rfl, _, _, xl, x0, x1, x2, x3⟩ := HVX2.out wr k _ hx1 HV.out
                obtain ⟨gz, rfl, _, _, zl, z0, z1, z2, z3⟩ := HVZ.out wr k _ hz1 HV.out
                simp only at x0 x1 x2 x3 z0 z1 z2 z3
                clear hx1 hz1
                go_upto_region 20 with fail
                go_region
                have HVN := Lib.hid (HV.out.trans (((Below.refl wr.heap.size wr).drew).mono HV.out.size))
                clear x0 x1 x2 x3 z0 z1 z2 z3 xl zl
                go_wp2_with fail
                go_roundw
                case rel => exact ⟨k + 1, by omega, by go_num, HVN⟩
                case measure => simp [intOf]; omega
              · have h2 : decide ((k : Int) < (nx : Int) + 1) = false := decide_eq_false (by omega)
                have HEB := Lib.hid (HB6.out.trans (HV.out.mono HB6.out.size))
                go_wp2_with fail
                go_ret
                exact ⟨rfl, HEB.out⟩
  · have A1 : (ea != 0) = true := by rw [bne_iff_ne]; omega
    clear hor
    go_wp2_with fail
    go_ret
    exact ⟨rfl, HB2.out⟩
end Go.Proofs.YtigbapkdpaahjaaDoor
