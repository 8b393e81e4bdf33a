/-
  The walk of the reference's Unquote: what the plain function UnqV says. Condition: the text has at most 2^40 bytes.
-/
import Derived.Test.YtigbapkdpaahjaaDoorUnquoteW
import Derived.Test.YtigbapkdpaahjaaDoorRefQuote
namespace Go.Proofs.YtigbapkdpaahjaaDoor
open Go.RowKit
/-- What the outer loop keeps: 'done' lies in the slice v, t is left. -/
def VRel (s : ByteArray) (w : World) (t : ByteArray) (done : List UInt8) (v : Value) (wr : World) : Prop :=
  t.size + done.length ≤ s.size ∧ UKeep s.data.toList.length ((s.data.toList.drop 1).take (s.data.toList.length - 2)) done t.data.toList ∧ ORel done w v wr
theorem VRel.below {s : ByteArray} {w : World} {t : ByteArray} {done : List UInt8} {v : Value} {wr w' : World} (h : VRel s w t done v wr) (hb : Below wr.heap.size wr w') : VRel s w t done v w' :=
  ⟨h.1, h.2.1, h.2.2.below hb⟩
theorem own_none (w : World) (B : Nat) (hB : B ≤ w.heap.size) : (w.alloc (.cells #[] 5 (0, 0))).ownsRow B 5 1 (.slice (some ⟨w.heap.size, 0, none⟩) 0 0) ([] : List UInt8).length (Lib.byteCells []) :=
  ⟨rfl, Or.inr ⟨w.heap.size, 0, _, rfl, hB, box_at w _ _ rfl, Nat.le_refl _, by decide, rfl, rfl⟩⟩
theorem VRel.start (s : ByteArray) (w : World) (h2 : ¬ s.size < 2) : VRel s w (s.extract 1 (s.size - 1)) [] (.slice (some ⟨w.heap.size, 0, none⟩) 0 0) (w.alloc (.cells #[] 5 (0, 0))) := by
  have h := URel.start s w h2
  exact ⟨h.1, h.2.1, own_none w _ (Nat.le_refl _), (Below.refl _ _).alloc (Nat.le_refl _) _⟩
/-- What the inner loop keeps: nothing found below k, or found, and less is left than before. -/
def VIn (s : ByteArray) (w : World) (t : ByteArray) (done : List UInt8) (v i o f c : Value) (wr : World) : Prop :=
  ∃ k : Nat, k ≤ 256 ∧ c = .int .i64 k ∧ ((f = .bool false ∧ i = .string t ∧ o = v ∧ VRel s w t done v wr ∧ ∀ j, j < k → pre j t.data.toList = false) ∨
    (f = .bool true ∧ ∃ (t' : ByteArray) (done' : List UInt8), i = .string t' ∧ VRel s w t' done' o wr ∧ t'.size < t.size))
theorem VRel.next {s : ByteArray} {w : World} {t : ByteArray} {done : List UInt8} {v v' : Value} {wr w' : World} {k : Nat} (h : VRel s w t done v wr) (ht : 0 < t.size) (hk : k < 256) (hp : pre k t.data.toList = true) (ho : ORel (done ++ [UInt8.ofNat k]) w v' w') :
    VRel s w (t.extract (qf k).length t.size) (done ++ [UInt8.ofNat k]) v' w' := by
  have hu := pre_unique hk hp
  have hl := pre_length hp
  have h1 := qf_pos k
  rw [size_len] at hl
  refine ⟨?_, ?_, ho⟩
  · have := h.1
    rw [ByteArray.size_extract, List.length_append]
    simp only [List.length_singleton]
    omega
  · rw [Lib.extract_to_end]
    rw [hu] at hp ⊢
    exact h.2.1.step (list_ne t ht) hp
theorem pre_test (t : ByteArray) (k : Nat) (hl : (qf k).length ≤ t.size) : ((t.extract 0 (qf k).length).toList == qf k) = pre k t.data.toList := by
  have h := Lib.hasPrefix_raw t ⟨(qf k).toArray⟩
  rw [ByteArray.toList_mk (qf k)] at h
  have e : (⟨(qf k).toArray⟩ : ByteArray).size = (qf k).length := rfl
  rw [e, decide_eq_true hl, Bool.true_and] at h
  exact h
theorem pre_long (t : ByteArray) (k : Nat) (hl : ¬ (qf k).length ≤ t.size) : pre k t.data.toList = false := by
  rcases h : pre k t.data.toList with _ | _
  · rfl
  · exact absurd (pre_length h) hl
set_option maxRecDepth 100000 in
set_option maxHeartbeats 2000000 in
set_option maxRecDepth 100000 in
theorem ref_Unquote (s : ByteArray) (w : World) (hs : s.size ≤ 1099511627776) : Calls Tryd.prog 34 #[.string s] w (StrErr (UnqV s.data.toList).1 (UnqV s.data.toList).2 w) := by
  obtain ⟨i0, hi, hz0, hz1, hz2⟩ := info_parts infoByte
  by_cases h2 : s.size < 2
  · have HV := Lib.hid (unqV_form (l := s.data.toList) (Or.inl h2))
    go_enter Tryd.func34, Tryd.ntmps34
    go_wp2
    go_ret2
    exact strErr HV.out (Below.refl _ _)
  · have h0 : 0 < s.size := by omega
    have hz : s.size - 1 < s.size := by omega
    have il := index_at s (s.size - 1) hz ((s.size : Int) - 1) (by omega)
    by_cases hc : s[0] = 34
    · have e0 : ((s[0].toNat : Int) == 34) = true := (byte_eq (n := 34) (by decide)).2 hc
      have e0' : ((s[0].toNat : Int) != 34) = false := by rw [bne, e0]; rfl
      by_cases hd : s[s.size - 1] = 34
      · have e1 : ((s[s.size - 1].toNat : Int) == 34) = true := (byte_eq (n := 34) (by decide)).2 hd
        have e1' : ((s[s.size - 1].toNat : Int) != 34) = false := by rw [bne, e1]; rfl
        have hok : ¬ (s.data.toList.length < 2 ∨ s.data.toList.getD 0 0 ≠ 34 ∨ s.data.toList.getD (s.data.toList.length - 1) 0 ≠ 34) := by
          rw [size_len, getD_of s 0 h0, getD_of s (s.size - 1) hz, hc, hd]
          simp
          omega
        have HOK := Lib.hid hok
        clear hok hc hd
        go_enter Tryd.func34, Tryd.ntmps34
        go_wp2_with fail
        go_loopw [4, 5] (fun r o wr => ∃ (t : ByteArray) (done : List UInt8), r = .string t ∧ VRel s w t done o wr) (fun r _ _ => strLen r)
        case atStart => exact ⟨_, [], rfl, VRel.start s w h2⟩
        case round =>
          obtain ⟨t, done, rfl, hrel⟩ := hrel
          obtain ⟨wo, rfl⟩ : ∃ wo : World, wo = wr := ⟨_, rfl⟩
          have HR := Lib.hid hrel
          have hsz := hrel.1
          clear hrel
          by_cases ht : 0 < t.size
          · go_wp2_with fail
            obtain ⟨ov, rfl⟩ : ∃ ov : Value, ov = u5 := ⟨_, rfl⟩
            go_loopw [4, 5, 6, 7] (fun i o f c wr => VIn s w t done ov i o f c wr) (fun _ _ _ c _ => 256 - (intOf c).toNat)
            case atStart => exact ⟨0, by omega, rfl, Or.inl ⟨rfl, rfl, rfl, HR.out, fun j hj => by omega⟩⟩
            case round =>
              obtain ⟨k, hk, rfl, hcase⟩ := hrel
              rcases hcase with ⟨rfl, rfl, rfl, hrel, hnot⟩ | ⟨rfl, t', done', rfl, hrel, hless⟩
              · have HV := Lib.hid hrel
                have HNOT := Lib.hid hnot
                clear hrel hnot
                by_cases hk2 : k < 256
                · go_wp2_with fail
                  refine (ref_one _ _ (by omega) (by omega)).mono ?_
                  rintro e w2 ⟨rfl, hb2⟩
                  rw [Int.toNat_natCast]
                  have H2 := Lib.hid (HV.out.below hb2)
                  clear hb2
                  by_cases hl : (qf k).length ≤ t.size
                  · by_cases hp : pre k t.data.toList = true
                    · have e5 := (pre_test t k hl).trans hp
                      have HP := Lib.hid hp
                      clear hp
                      go_wp2_with (at_builtin; refine wpList_append_own _ rfl _ _ 32 rfl w.heap.size 5 i0 (.int .u8 0) 1 1 Tryd.underlying32 hi hz0 hz1 hz2 rfl (by decide) _ _ _ rfl (H2.out.2.2.1.alloc _) ⟨w2.heap.size, 0, none⟩ 1 1 [.int .u8 k] rfl rfl ?c1 ?c2 ?c3 ?c4 ?c5 ?_)
                      case c1 =>
                        intro j u hj
                        match j, hj with
                        | 0, hj => simp at hj; subst hj; simp [Addr.add]
                      case c2 => intro u hu; simp at hu; subst hu; rfl
                      case c3 => unfold maxLen; omega
                      case c4 => omega
                      case c5 => have := H2.out.2.2.2.size; simp; omega
                      intro v' w3 hown' hgrow _
                      rw [byteCells_one k hk2] at hown'
                      have HO := (H2.out.2.2.below ((Below.refl _ _).alloc (Nat.le_refl _) _)).grow (m := [UInt8.ofNat k]) hown' hgrow
                      have HN := Lib.hid (H2.out.next ht hk2 HP.out HO)
                      have hq := qf_pos k
                      have hm : (t.extract (qf k).length t.size).size < t.size := by rw [ByteArray.size_extract]; omega
                      have HM := Lib.hid hm
                      clear hown' hgrow HO hm
                      go_wp2_with fail
                      go_roundw
                      case rel => exact ⟨k + 1, by omega, by go_num, Or.inr ⟨rfl, _, _, rfl, HN.out, HM.out⟩⟩
                      case measure => simp [intOf]; omega
                    · have hp' : pre k t.data.toList = false := by simpa using hp
                      have e5 := (pre_test t k hl).trans hp'
                      have HP := Lib.hid hp'
                      clear hp hp'
                      go_wp2_with fail
                      go_roundw
                      case rel => exact ⟨k + 1, by omega, by go_num, Or.inl ⟨rfl, rfl, rfl, H2.out, fun j hj => by rcases (by omega : j < k ∨ j = k) with h | h; exact HNOT.out j h; rw [h]; exact HP.out⟩⟩
                      case measure => simp [intOf]; omega
                  · have HP := Lib.hid (pre_long t k hl)
                    have hl' : t.size < (qf k).length := by omega
                    go_wp2_with fail
                    go_roundw
                    case rel => exact ⟨k + 1, by omega, by go_num, Or.inl ⟨rfl, rfl, rfl, H2.out, fun j hj => by rcases (by omega : j < k ∨ j = k) with h | h; exact HNOT.out j h; rw [h]; exact HP.out⟩⟩
                    case measure => simp [intOf]; omega
                · obtain rfl : k = 256 := by omega
                  have hp := HNOT.out _ (Mn_lt t.data.toList)
                  have HF := Lib.hid (unqV_none HOK.out (HV.out.2.1.none (list_ne t ht) hp))
                  clear hp
                  go_wp2_with fail
                  go_ret2
                  exact strErr HF.out HV.out.2.2.2
              · have HV := Lib.hid hrel
                clear hrel
                by_cases hk2 : k < 256
                · go_wp2_with fail
                  go_roundw
                  case rel => exact ⟨t', done', rfl, HV.out⟩
                  case measure => simp only [strLen]; exact hless
                · go_wp2_with fail
                  go_roundw
                  case rel => exact ⟨t', done', rfl, HV.out⟩
                  case measure => simp only [strLen]; exact hless
          · have hk := HR.out.2.1
            rw [empty_of t ht] at hk
            have HV := Lib.hid (unqV_some HOK.out hk.stop)
            have hcv := own_string HR.out.2.2.1
            clear hk
            go_wp2_with fail
            go_ret2
            exact strErr HV.out HR.out.2.2.2
      · have HV := Lib.hid (unqV_form (l := s.data.toList) (Or.inr (Or.inr (by rw [size_len, getD_of s (s.size - 1) hz]; exact hd))))
        have e1 : ((s[s.size - 1].toNat : Int) == 34) = false := (byte_ne (n := 34) (by decide)).2 hd
        have e1' : ((s[s.size - 1].toNat : Int) != 34) = true := by rw [bne, e1]; rfl
        clear hc hd
        go_enter Tryd.func34, Tryd.ntmps34
        go_wp2
        go_ret2
        exact strErr HV.out (Below.refl _ _)
    · have HV := Lib.hid (unqV_form (l := s.data.toList) (Or.inr (Or.inl (by rw [getD_of s 0 h0]; exact hc))))
      have e0 : ((s[0].toNat : Int) == 34) = false := (byte_ne (n := 34) (by decide)).2 hc
      have e0' : ((s[0].toNat : Int) != 34) = true := by rw [bne, e0]; rfl
      clear hc
      go_enter Tryd.func34, Tryd.ntmps34
      go_wp2
      go_ret2
      exact strErr HV.out (Below.refl _ _)
end Go.Proofs.YtigbapkdpaahjaaDoor
