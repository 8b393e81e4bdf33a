/-
  What the document's own answer finds, told in the terms of the objects; the walks of its New and Get.
-/
import Derived.Test.YtdkbgdjkdalalaaGreatDoorHRefLook
namespace Go.Proofs.YtdkbgdjkdalalaaGreatDoor
open Go.RowKit
theorem drop_mid (words p : Nat) (A B : List Ob) (o : Ob) (h : Lies words p (A ++ o :: B)) : dropOb (A ++ o :: B) o.at_ = A ++ B := by
  induction A generalizing p with
  | nil => unfold dropOb; simp
  | cons x A ih =>
    rw [List.cons_append, dropOb]
    have h1 := lies_mem _ _ _ h.2 o (by simp)
    have hnx : x.next = x.at_ + 1 + x.fs.length := rfl
    rw [if_neg (by omega), ih x.next h.2]
    rfl
theorem set_mid (words p : Nat) (A B : List Ob) (o : Ob) (h : Lies words p (A ++ o :: B)) (i x : Nat) : setOb (A ++ o :: B) o.at_ i x = A ++ o.put i x :: B := by
  induction A generalizing p with
  | nil => unfold setOb; simp
  | cons y A ih =>
    rw [List.cons_append, setOb]
    have h1 := lies_mem _ _ _ h.2 o (by simp)
    have hnx : y.next = y.at_ + 1 + y.fs.length := rfl
    rw [if_neg (by omega), ih y.next h.2]
    rfl
theorem find_at {words k : Nat} {L : List Ob} {o : Ob} (hl : Lies words 1 L) (ho : L[k]? = some o) : findOb L o.at_ = some o ∧ dropOb L o.at_ = L.take k ++ L.drop (k + 1) ∧ ∀ i x, setOb L o.at_ i x = L.take k ++ o.put i x :: L.drop (k + 1) := by
  have hs := split_at ho
  rw [hs] at hl
  refine ⟨?_, ?_, fun i x => ?_⟩
  · conv => lhs; rw [hs]
    exact find_mid words 1 _ _ o hl
  · conv => lhs; rw [hs]
    exact drop_mid words 1 _ _ o hl
  · conv => lhs; rw [hs]
    exact set_mid words 1 _ _ o hl i x
theorem find_not {L : List Ob} {a : Int} (h : ∀ (j : Nat) (o : Ob), L[j]? = some o → (o.at_ : Int) ≠ a) : a < 0 ∨ findOb L a.toNat = none := by
  by_cases ha : a < 0
  · exact .inl ha
  · refine .inr ?_
    induction L with
    | nil => rfl
    | cons o L ih =>
      have h1 := h 0 o rfl
      rw [findOb, if_neg (by omega)]
      exact ih fun j o ho => h (j + 1) o (by simpa using ho)
theorem hGet_no {L : List Ob} {a : Int} (i : Int) (h : a < 0 ∨ findOb L a.toNat = none) : hGet L a i = (0, 7) := by
  unfold hGet
  split
  · rfl
  · rcases h with h | h
    · omega
    · rw [h]
theorem hGet_at {L : List Ob} {n : Nat} {o : Ob} (i : Int) (h : findOb L n = some o) : hGet L (n : Int) i = if i < 0 ∨ (o.fs.length : Int) ≤ i then (0, 2) else (o.fs.getD i.toNat 0, 0) := by
  unfold hGet
  rw [if_neg (by omega), Int.toNat_natCast, h]
theorem ref_Get (r : Nat) (S : Nat → Prop) (m : Nat) (L : List Ob) (a i : Int) (w : World) (h : RefAt w r S m L) (hl : Lies m 1 L) (hn : L.length ≤ 65536) (hf : ∀ o ∈ L, o.fs.length ≤ 65536) :
    Calls Tryz.prog 44 #[.pointer (some ⟨r, 0, none⟩), .int .i64 a, .int .i64 i] w (TwoSame (.int .u64 ((hGet L a i).1 : Nat)) (hGet L a i).2 w) := by
  obtain ⟨A, c, c0, c1, hs⟩ := h.seen
  have HS := Lib.hid hs
  have H := Lib.hid h
  have HL := Lib.hid hl
  have HF := Lib.hid hf
  clear h hs hl hf
  go_enter Tryz.func44, Tryz.ntmps44
  go_wp2_with fail
  refine (ref_Find r S m L a _ H.out hn).mono ?_
  rintro e w' ⟨rfl, hfi⟩
  rcases hfi with ⟨rfl, hno⟩ | ⟨k, o, rfl, ho, ha⟩
  · have HV := Lib.hid (hGet_no i (find_not hno))
    clear hno
    go_wp2_with fail
    go_ret2
    exact ⟨by rw [HV.out]; rfl, rfl⟩
  · subst ha
    have hv := hGet_at i (find_at HL.out ho).1
    have hkl : k < L.length := (List.getElem?_eq_some_iff.1 ho).1
    have hol := HF.out o (List.mem_of_getElem? ho)
    obtain ⟨g, rfl, hg, k0, _, F, cf, k2, hfs⟩ := HS.out k o ho
    clear ho
    have g0 : decide ((k : Int) < 0) = false := by rw [decide_eq_false_iff_not]; omega
    by_cases hi0 : i < 0
    · rw [if_pos (.inl hi0)] at hv
      have HV := Lib.hid hv
      have g1 : decide (i < 0) = true := by rw [decide_eq_true_iff]; exact hi0
      clear hv hfs hi0
      go_wp2_with fail
      go_ret2
      exact ⟨by rw [HV.out]; rfl, rfl⟩
    · obtain ⟨j, rfl⟩ := Int.eq_ofNat_of_zero_le (show 0 ≤ i by omega)
      have g1 : decide ((j : Int) < 0) = false := by rw [decide_eq_false_iff_not]; omega
      by_cases hj : j < o.fs.length
      · rw [if_neg (by omega), Int.toNat_natCast] at hv
        have HV := Lib.hid hv
        obtain ⟨f, rfl, hfl, kx⟩ := hfs j (o.fs[j]) (List.getElem?_eq_getElem hj)
        have hd : o.fs[j] = o.fs.getD j 0 := by rw [List.getD_eq_getElem?_getD, List.getElem?_eq_getElem hj]; rfl
        rw [hd] at kx
        have g3 : decide ((o.fs.length : Int) ≤ (j : Int)) = false := by rw [decide_eq_false_iff_not]; omega
        clear hv hfs hd hi0
        generalize o.fs.getD j 0 = x at *
        go_wp2_with fail
        go_ret2
        exact ⟨by rw [HV.out]; rfl, rfl⟩
      · rw [if_pos (by omega)] at hv
        have HV := Lib.hid hv
        have g3 : decide ((o.fs.length : Int) ≤ (j : Int)) = true := by rw [decide_eq_true_iff]; omega
        clear hv hfs hi0
        go_wp2_with fail
        go_ret2
        exact ⟨by rw [HV.out]; rfl, rfl⟩


end Go.Proofs.YtdkbgdjkdalalaaGreatDoor
