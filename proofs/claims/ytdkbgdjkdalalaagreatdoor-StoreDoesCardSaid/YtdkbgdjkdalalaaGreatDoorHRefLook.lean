/-
  The walks of the looks at the document's own answer's heap: Next, gap, Room, Get.
-/
import Derived.Test.YtdkbgdjkdalalaaGreatDoorHRef
import Derived.Test.YtdkbgdjkdalalaaGreatDoorHFits
namespace Go.Proofs.YtdkbgdjkdalalaaGreatDoor
open Go.RowKit
theorem split_at {L : List Ob} {i : Nat} {o : Ob} (h : L[i]? = some o) : L = L.take i ++ o :: L.drop (i + 1) := by
  obtain ⟨hi, he⟩ := List.getElem?_eq_some_iff.1 h
  rw [← he, ← List.drop_eq_getElem_cons hi, List.take_append_drop]
/-- All objects ahead of place i lie below address a. -/
def Under (L : List Ob) (a : Int) (i : Nat) : Prop := ∀ (j : Nat) (o : Ob), j < i → L[j]? = some o → (o.at_ : Int) < a
theorem under_next {L : List Ob} {a : Int} {i : Nat} {o : Ob} (h : Under L a i) (ho : L[i]? = some o) (ha : a ≤ o.at_) : nextOb L a.toNat = o.at_ := by
  rw [split_at ho, next_skip _ _ _ (fun x hx => ?_), nextOb, if_pos (by omega)]
  obtain ⟨j, hj, he⟩ := List.getElem_of_mem hx
  have hji : j < i := by rw [List.length_take] at hj; omega
  have hjl : j < L.length := by rw [List.length_take] at hj; omega
  have := h j x hji (by rw [List.getElem_take] at he; rw [← he]; exact List.getElem?_eq_getElem hjl)
  omega
theorem under_none {L : List Ob} {a : Int} (h : Under L a L.length) : nextOb L a.toNat = 0 := by
  have h1 := next_skip L [] a.toNat (fun x hx => by
    obtain ⟨j, hj, he⟩ := List.getElem_of_mem hx
    have := h j x hj (by rw [← he]; exact List.getElem?_eq_getElem hj)
    omega)
  rw [List.append_nil] at h1
  rw [h1]; rfl
theorem ref_Next (r : Nat) (S : Nat → Prop) (m : Nat) (L : List Ob) (a : Int) (w : World) (h : RefAt w r S m L) (hn : L.length ≤ 65536) :
    Calls Tryz.prog 78 #[.pointer (some ⟨r, 0, none⟩), .int .i64 a] w (OneSame (nextOb L a.toNat : Nat) w) := by
  obtain ⟨A, c, c0, c1, hs⟩ := h.seen
  have HS := Lib.hid hs
  clear h hs
  go_enter Tryz.func78, Tryz.ntmps78
  go_wp2_with fail
  go_loop [5] (fun vi => ∃ i : Nat, i ≤ L.length ∧ vi = .int .i64 i ∧ Hid (Under L a i)) (fun vi => L.length - (intOf vi).toNat)
  case atStart => exact ⟨0, by omega, by go_num, Lib.hid (fun j o hj => by omega)⟩
  case round =>
    obtain ⟨i, hil, rfl, HN⟩ := hrel
    by_cases hi : i < L.length
    · obtain ⟨o, ho⟩ : ∃ o, L[i]? = some o := ⟨_, List.getElem?_eq_getElem hi⟩
      have HO := Lib.hid ho
      obtain ⟨g, rfl, hg, k0, _, _⟩ := HS.out i o ho
      have g2 : decide ((i : Int) < (L.length : Int)) = true := by rw [decide_eq_true_iff]; omega
      clear ho
      by_cases he : a ≤ (o.at_ : Int)
      · have B1 : decide (a ≤ (o.at_ : Int)) = true := by rw [decide_eq_true_iff]; exact he
        have HE := Lib.hid he
        clear he
        go_wp2_with fail
        go_ret
        exact ⟨by rw [under_next HN.out HO.out HE.out]; rfl, rfl⟩
      · have B1 : decide (a ≤ (o.at_ : Int)) = false := by rw [decide_eq_false_iff_not]; exact he
        have HN1 : Hid (Under L a (i + 1)) := Lib.hid (fun j o' hj ho' => by
          by_cases hji : j = i
          · subst hji
            have := HO.out
            rw [this] at ho'
            injection ho' with ho'
            subst ho'
            omega
          · exact HN.out j o' (by omega) ho')
        clear he
        go_wp2_with fail
        go_round
        case rel => exact ⟨i + 1, by omega, by go_num, HN1⟩
        case measure => simp [intOf]; omega
    · have g2 : decide ((i : Int) < (L.length : Int)) = false := by rw [decide_eq_false_iff_not]; omega
      have hiL : i = L.length := by omega
      rw [hiL] at HN
      clear hiL
      go_wp2_with fail
      go_ret
      exact ⟨by rw [under_none HN.out]; rfl, rfl⟩
/-- The gaps ahead of the objects, and behind the last. -/
def gapsFrom (m : Nat) : Nat → List Ob → List Nat
  | p, [] => [m - p]
  | p, o :: L => (o.at_ - p) :: gapsFrom m o.next L
def sumN : List Nat → Nat
  | [] => 0
  | x :: l => x + sumN l
def maxN : List Nat → Nat
  | [] => 0
  | x :: l => max x (maxN l)
theorem gaps_sum (m p : Nat) (L : List Ob) : sumN (gapsFrom m p L) = sumR (freeFrom m p L) := by
  induction L generalizing p with
  | nil => unfold gapsFrom freeFrom; rw [sum_one]; simp [sumN]
  | cons o L ih => unfold gapsFrom freeFrom; rw [sumR_append, sum_one, sumN, ih]
theorem gaps_max (m p : Nat) (L : List Ob) : maxN (gapsFrom m p L) = maxR (freeFrom m p L) := by
  induction L generalizing p with
  | nil => unfold gapsFrom freeFrom; rw [max_one]; simp [maxN]
  | cons o L ih => unfold gapsFrom freeFrom; rw [maxR_append, max_one, maxN, ih]
theorem gaps_len (m p : Nat) (L : List Ob) : (gapsFrom m p L).length = L.length + 1 := by
  induction L generalizing p with
  | nil => rfl
  | cons o L ih => unfold gapsFrom; rw [List.length_cons, ih, List.length_cons]
/-- Where the gap ahead of place i begins, and where it ends. -/
def gapTo (m : Nat) (L : List Ob) (i : Nat) : Nat := match L[i]? with
  | some o => o.at_
  | none => m
theorem gaps_at (m p i : Nat) (L : List Ob) (hi : i ≤ L.length) : (gapsFrom m p L)[i]? = some (gapTo m L i - endOf p (L.take i)) := by
  induction L generalizing p i with
  | nil =>
    obtain rfl : i = 0 := by simpa using hi
    rfl
  | cons o L ih =>
    cases i with
    | zero => rfl
    | succ i =>
      have h1 := ih o.next i (by simpa using hi)
      unfold gapsFrom
      rw [List.getElem?_cons_succ, h1]
      rfl
theorem gap_order {m i : Nat} {L : List Ob} (hl : Lies m 1 L) (hi : i ≤ L.length) : endOf 1 (L.take i) ≤ gapTo m L i ∧ gapTo m L i ≤ m := by
  unfold gapTo
  cases ho : L[i]? with
  | none =>
    have : i = L.length := by have := List.getElem?_eq_none_iff.1 ho; omega
    subst this
    rw [List.take_length]
    have h1 := lies_append m 1 L [] (by rw [List.append_nil]; exact hl)
    exact ⟨h1.2, Nat.le_refl _⟩
  | some o =>
    have h0 := hl
    rw [split_at ho] at h0
    have h1 := lies_append m 1 _ _ h0
    have h2 := lies_mem m 1 _ h0 o (by simp)
    have hnx : o.next = o.at_ + 1 + o.fs.length := rfl
    exact ⟨h1.2.1, by show o.at_ ≤ m; omega⟩
theorem below_drewN {w wx : World} {n : Nat} (h : Below n w wx) (k : Nat) : Below n w (wx.drewN k) := ⟨h.os, h.tape, h.output, h.size, h.block⟩
theorem end_take {L : List Ob} {k : Nat} {o : Ob} (h : L[k]? = some o) : endOf 1 (L.take (k + 1)) = o.next := by
  obtain ⟨hi, he⟩ := List.getElem?_eq_some_iff.1 h
  rw [List.take_succ_eq_append_getElem hi, he, endOf_snoc]
def GapIs (b n : Nat) (w : World) (e : Ending) (w' : World) : Prop := e = .returned (.tuple #[.int .i64 (b : Int), .int .i64 (n : Int)]) ∧ Below w.heap.size w w'
set_option maxHeartbeats 1000000 in
theorem ref_gap (r : Nat) (S : Nat → Prop) (m : Nat) (L : List Ob) (i : Nat) (w : World) (h : RefAt w r S m L) (hl : Lies m 1 L) (hm : m ≤ 65536) (hn : L.length ≤ 65536) (hi : i ≤ L.length) :
    Calls Tryz.prog 82 #[.pointer (some ⟨r, 0, none⟩), .int .i64 (i : Int)] w (GapIs (endOf 1 (L.take i)) (gapTo m L i - endOf 1 (L.take i)) w) := by
  have hord := gap_order hl hi
  have hrl := h.lt
  obtain ⟨A, c, c0, c1, hs⟩ := h.seen
  have HS := Lib.hid hs
  clear h hs
  have hto : Hid (∀ o, L[i]? = some o → gapTo m L i = o.at_) := Lib.hid (fun o ho => by unfold gapTo; rw [ho])
  have hte : Hid (i = L.length → gapTo m L i = m) := Lib.hid (fun he => by unfold gapTo; rw [List.getElem?_eq_none (by omega)])
  cases i with
  | zero =>
    have B0 : decide ((0 : Int) < ((0 : Nat) : Int)) = false := rfl
    have hend : endOf 1 (L.take 0) = 1 := rfl
    rw [hend] at hord ⊢
    clear hend
    by_cases hlt : 0 < L.length
    · obtain ⟨o, ho⟩ : ∃ o, L[0]? = some o := ⟨_, List.getElem?_eq_getElem hlt⟩
      obtain ⟨g, rfl, hg, k0, _, _⟩ := HS.out 0 o ho
      have ht := hto.out o ho
      rw [ht] at hord ⊢
      clear ho ht hto hte
      have g2 : decide (((0 : Nat) : Int) < (L.length : Int)) = true := by rw [decide_eq_true_iff]; omega
      rw [Nat.zero_mul] at k0
      go_enter Tryz.func82, Tryz.ntmps82
      go_wp2_with fail
      go_ret2
      refine ⟨?_, Below.refl _ _⟩
      rw [show ((o.at_ - 1 : Nat) : Int) = (o.at_ : Int) - 1 by omega]
      rfl
    · have ht := hte.out (by omega)
      rw [ht] at hord ⊢
      clear ht hto hte
      have g2 : decide (((0 : Nat) : Int) < (L.length : Int)) = false := by rw [decide_eq_false_iff_not]; omega
      go_enter Tryz.func82, Tryz.ntmps82
      go_wp2_with fail
      go_ret2
      refine ⟨?_, Below.refl _ _⟩
      rw [show ((m - 1 : Nat) : Int) = (m : Int) - 1 by omega]
      rfl
  | succ k =>
    obtain ⟨o, ho⟩ : ∃ o, L[k]? = some o := ⟨_, List.getElem?_eq_getElem (by omega)⟩
    obtain ⟨g, rfl, hg, k0, _, F, cf, k2, _⟩ := HS.out k o ho
    have hend := end_take ho
    have hnx : o.next = o.at_ + 1 + o.fs.length := rfl
    rw [hend, hnx] at hord ⊢
    clear ho hend hnx
    have B0 : decide ((0 : Int) < ((k + 1 : Nat) : Int)) = true := by rw [decide_eq_true_iff]; omega
    have hkl : k < L.length := by omega
    have q0 : (0 : Int) ≤ (k : Int) := by omega
    have q1 : (k : Int) < (L.length : Int) := by omega
    have q2 : IntKind.i64.wrap (((k + 1 : Nat) : Int) - 1) = (k : Int) := by rw [IntKind.wrap_i64]; omega
    have q3 : IntKind.i64.wrap ((o.at_ : Int) + 1) = (o.at_ : Int) + 1 := by rw [IntKind.wrap_i64]; omega
    have q4 : IntKind.i64.wrap ((o.at_ : Int) + 1 + (o.fs.length : Int)) = (o.at_ : Int) + 1 + (o.fs.length : Int) := by rw [IntKind.wrap_i64]; omega
    by_cases hlt : k + 1 < L.length
    · obtain ⟨p, hp⟩ : ∃ p, L[k + 1]? = some p := ⟨_, List.getElem?_eq_getElem hlt⟩
      obtain ⟨g', he, _, k4, _, _⟩ := HS.out (k + 1) p hp
      obtain rfl : g = g' := by simpa using he
      have ht := hto.out p hp
      rw [ht] at hord ⊢
      clear hp ht hto hte he
      have g2 : decide ((k : Int) + 1 < (L.length : Int)) = true := by rw [decide_eq_true_iff]; omega
      go_enter Tryz.func82, Tryz.ntmps82
      go_wp2_with fail
      go_quiet (fail)
      go_wp2_with fail
      go_ret2
      refine ⟨?_, below_drewN (Below.refl _ _) _⟩
      rw [show ((p.at_ - (o.at_ + 1 + o.fs.length) : Nat) : Int) = (p.at_ : Int) - ((o.at_ : Int) + 1 + (o.fs.length : Int)) by omega, show ((o.at_ + 1 + o.fs.length : Nat) : Int) = (o.at_ : Int) + 1 + (o.fs.length : Int) by omega]
      rfl
    · have ht := hte.out (by omega)
      rw [ht] at hord ⊢
      clear ht hto hte
      have g2 : decide ((k : Int) + 1 < (L.length : Int)) = false := by rw [decide_eq_false_iff_not]; omega
      go_enter Tryz.func82, Tryz.ntmps82
      go_wp2_with fail
      go_quiet (fail)
      go_wp2_with fail
      go_ret2
      refine ⟨?_, below_drewN (Below.refl _ _) _⟩
      rw [show ((m - (o.at_ + 1 + o.fs.length) : Nat) : Int) = (m : Int) - ((o.at_ : Int) + 1 + (o.fs.length : Int)) by omega, show ((o.at_ + 1 + o.fs.length : Nat) : Int) = (o.at_ : Int) + 1 + (o.fs.length : Int) by omega]
      rfl
theorem sumN_append (a b : List Nat) : sumN (a ++ b) = sumN a + sumN b := by
  induction a with
  | nil => simp [sumN]
  | cons x a ih => simp only [List.cons_append, sumN, ih]; omega
theorem maxN_append (a b : List Nat) : maxN (a ++ b) = max (maxN a) (maxN b) := by
  induction a with
  | nil => simp [maxN]
  | cons x a ih => simp only [List.cons_append, maxN, ih]; omega
theorem take_more {l : List Nat} {i x : Nat} (h : l[i]? = some x) : l.take (i + 1) = l.take i ++ [x] := by
  obtain ⟨hi, he⟩ := List.getElem?_eq_some_iff.1 h
  rw [List.take_succ_eq_append_getElem hi, he]
theorem sumN_more {l : List Nat} {i x : Nat} (h : l[i]? = some x) : sumN (l.take (i + 1)) = sumN (l.take i) + x := by
  rw [take_more h, sumN_append]; simp [sumN]
theorem maxN_more {l : List Nat} {i x : Nat} (h : l[i]? = some x) : maxN (l.take (i + 1)) = max (maxN (l.take i)) x := by
  rw [take_more h, maxN_append]; simp [maxN]
theorem sumN_le (l : List Nat) (i : Nat) : sumN (l.take i) ≤ sumN l := by
  have h : sumN l = sumN (l.take i) + sumN (l.drop i) := by rw [← sumN_append, List.take_append_drop]
  omega
theorem maxN_le (l : List Nat) : maxN l ≤ sumN l := by
  induction l with
  | nil => exact Nat.le_refl _
  | cons x l ih => simp only [maxN, sumN]; omega
set_option maxHeartbeats 1000000 in
theorem ref_Room (r : Nat) (S : Nat → Prop) (m : Nat) (L : List Ob) (w : World) (h : RefAt w r S m L) (hl : Lies m 1 L) (hm : m ≤ 65536) (hn : L.length ≤ 65536) :
    Calls Tryz.prog 52 #[.pointer (some ⟨r, 0, none⟩)] w (GapIs (roomOf m L) (longOf m L) w) := by
  have hrl := h.lt
  obtain ⟨A, c, c0, c1, _⟩ := h.seen
  have H := Lib.hid h
  have HL := Lib.hid hl
  have hsum : sumN (gapsFrom m 1 L) ≤ 65536 := by
    rw [gaps_sum]
    have := free_sum m 1 L hl
    omega
  have HS := Lib.hid (show ∀ i, sumN ((gapsFrom m 1 L).take i) ≤ 65536 ∧ maxN ((gapsFrom m 1 L).take i) ≤ 65536 from fun i => by
    have h1 := sumN_le (gapsFrom m 1 L) i
    have h2 := maxN_le ((gapsFrom m 1 L).take i)
    omega)
  clear h hl hsum
  go_enter Tryz.func52, Tryz.ntmps52
  go_wp2_with fail
  go_loopw [4, 5, 6] (fun va vl vi wr => ∃ i : Nat, i ≤ L.length + 1 ∧ vi = .int .i64 i ∧ va = .int .i64 (sumN ((gapsFrom m 1 L).take i) : Nat) ∧ vl = .int .i64 (maxN ((gapsFrom m 1 L).take i) : Nat) ∧ Hid (Below w.heap.size w wr)) (fun _ _ vi _ => L.length + 1 - (intOf vi).toNat)
  case atStart => exact ⟨0, by omega, by go_num, rfl, rfl, Lib.hid (Below.refl _ _)⟩
  case round =>
    obtain ⟨i, hi1, rfl, rfl, rfl, HB⟩ := hrel
    have d1 := (HB.out.cell (p := ⟨r, 1, none⟩) hrl).trans c1
    have hsz := HB.out.size
    by_cases hi : i ≤ L.length
    · have g2 : decide ((i : Int) ≤ (L.length : Int)) = true := by rw [decide_eq_true_iff]; omega
      have hg := gaps_at m 1 i L hi
      have hs1 := sumN_more hg
      have hx1 := maxN_more hg
      have b1 := HS.out i
      have b2 := HS.out (i + 1)
      have HG := Lib.hid (ref_gap r S m L i _ (H.out.below HB.out) HL.out hm hn hi)
      rw [hs1, hx1] at b2
      have HS1 := Lib.hid hs1
      have HX1 := Lib.hid hx1
      clear hg hs1 hx1
      generalize gapTo m L i - endOf 1 (L.take i) = x at *
      generalize endOf 1 (L.take i) = y at *
      generalize sumN ((gapsFrom m 1 L).take i) = sm at *
      generalize maxN ((gapsFrom m 1 L).take i) = mx at *
      go_wp2_with fail
      refine HG.out.mono ?_
      rintro e w2 ⟨rfl, hb2⟩
      have HB2 := Lib.hid (HB.out.trans (hb2.mono hsz))
      clear hb2
      by_cases hmx : mx < x
      · have B1 : decide ((mx : Int) < (x : Int)) = true := by rw [decide_eq_true_iff]; omega
        go_wp2_with fail
        go_roundw
        case rel => exact ⟨i + 1, by omega, by go_num, by rw [HS1.out]; go_num, by rw [HX1.out, Nat.max_eq_right (by omega)], HB2⟩
        case measure => simp [intOf]; omega
      · have B1 : decide ((mx : Int) < (x : Int)) = false := by rw [decide_eq_false_iff_not]; omega
        go_wp2_with fail
        go_roundw
        case rel => exact ⟨i + 1, by omega, by go_num, by rw [HS1.out]; go_num, by rw [HX1.out, Nat.max_eq_left (by omega)], HB2⟩
        case measure => simp [intOf]; omega
    · have g2 : decide ((i : Int) ≤ (L.length : Int)) = false := by rw [decide_eq_false_iff_not]; omega
      have hie : i = L.length + 1 := by omega
      have HA : Hid (sumN ((gapsFrom m 1 L).take i) = roomOf m L ∧ maxN ((gapsFrom m 1 L).take i) = longOf m L) := Lib.hid (by
        rw [hie, List.take_of_length_le (by rw [gaps_len]; exact Nat.le_refl _)]
        exact ⟨gaps_sum m 1 L, gaps_max m 1 L⟩)
      clear hie
      generalize sumN ((gapsFrom m 1 L).take i) = sm at *
      generalize maxN ((gapsFrom m 1 L).take i) = mx at *
      go_wp2_with fail
      go_ret2
      exact ⟨by rw [← HA.out.1, ← HA.out.2]; rfl, HB.out⟩
end Go.Proofs.YtdkbgdjkdalalaaGreatDoor
