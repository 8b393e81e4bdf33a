/-
  A heap in memory: its head, its words, its marks and its free runs; the walks of the calls that look up an object's fields.
-/
import Derived.Test.YtdkbgdjkdalalaaGreatDoorHGive
namespace Go.Proofs.YtdkbgdjkdalalaaGreatDoor
open Go.RowKit
/-- Where a heap lies: its head's block, its words', its marks', its free runs'; how many each has space for. -/
structure Lay where
  hb : Nat
  cb : Nat
  mb : Nat
  fb : Nat
  kc : Nat
  km : Nat
  kf : Nat
def Lay.own (Y : Lay) (b : Nat) : Prop := b = Y.hb ∨ b = Y.cb ∨ b = Y.mb ∨ b = Y.fb
structure Mem (w : World) (Y : Lay) (cs ms : List Nat) (rs : List (Nat × Nat)) : Prop where
  head : Head w Y.hb (.slice (some ⟨Y.cb, 0, none⟩) cs.length Y.kc) (.slice (some ⟨Y.mb, 0, none⟩) ms.length Y.km) (.slice (some ⟨Y.fb, 0, none⟩) rs.length Y.kf)
  words : Words w 33 Y.cb Y.kc cs
  marks : Words w 32 Y.mb Y.km ms
  runs : Runs w Y.fb Y.kf rs
theorem Words.lt {w : World} {t : TypeId} {g k : Nat} {l : List Nat} (h : Words w t g k l) : g < w.heap.size := (World.ownsRow.lt h g rfl).2
theorem Words.cap {w : World} {t : TypeId} {g k : Nat} {l : List Nat} (h : Words w t g k l) : l.length ≤ k ∧ k ≤ 9223372036854775807 := by
  obtain ⟨_, _, _, h3, h4, _⟩ := own_open h
  unfold maxLen at h4
  exact ⟨h3, by omega⟩
theorem Words.block {w : World} {t : TypeId} {g k : Nat} {l : List Nat} (h : Words w t g k l) : ∃ cur, w.heap[g]? = some (.cells cur t (0, 0)) := by
  obtain ⟨cur, _, h2, _⟩ := own_open h
  exact ⟨cur, h2⟩
theorem Runs.block {w : World} {g k : Nat} {l : List (Nat × Nat)} (h : Runs w g k l) : ∃ cur, w.heap[g]? = some (.cells cur 97 (0, 0)) := by
  obtain ⟨cur, _, h2, _⟩ := own_open h
  exact ⟨cur, h2⟩
theorem blocks_ne {w : World} {a b : Nat} {t u : TypeId} {x y : Array Value} {f g : Nat × Nat} (h : w.heap[a]? = some (.cells x t f)) (k : w.heap[b]? = some (.cells y u g)) (hne : t ≠ u) : a ≠ b := by
  rintro rfl
  rw [h] at k
  injection k with k
  injection k with _ k
  exact hne k
theorem Mem.keep {w w' : World} {Y : Lay} {cs ms : List Nat} {rs : List (Nat × Nat)} (h : Mem w Y cs ms rs) (hk : ∀ b, Y.own b → w'.heap[b]? = w.heap[b]?) : Mem w' Y cs ms rs :=
  ⟨h.head.keep (hk _ (.inl rfl)), h.words.keep (hk _ (.inr (.inl rfl))), h.marks.keep (hk _ (.inr (.inr (.inl rfl)))), h.runs.keep (hk _ (.inr (.inr (.inr rfl))))⟩
theorem Mem.lt {w : World} {Y : Lay} {cs ms : List Nat} {rs : List (Nat × Nat)} (h : Mem w Y cs ms rs) : ∀ b, Y.own b → b < w.heap.size := by
  rintro b (rfl | rfl | rfl | rfl)
  · exact h.head.lt
  · exact h.words.lt
  · exact h.marks.lt
  · exact h.runs.lt
theorem Mem.below {w w' : World} {Y : Lay} {cs ms : List Nat} {rs : List (Nat × Nat)} (h : Mem w Y cs ms rs) (hb : Below w.heap.size w w') : Mem w' Y cs ms rs :=
  h.keep fun b hw => hb.block b (h.lt b hw)
theorem Mem.drew {w : World} {Y : Lay} {cs ms : List Nat} {rs : List (Nat × Nat)} (h : Mem w Y cs ms rs) : Mem w.drew Y cs ms rs := h.keep fun _ _ => rfl
theorem Mem.ne {w : World} {Y : Lay} {cs ms : List Nat} {rs : List (Nat × Nat)} (h : Mem w Y cs ms rs) : Y.hb ≠ Y.cb ∧ Y.hb ≠ Y.mb ∧ Y.hb ≠ Y.fb ∧ Y.cb ≠ Y.mb ∧ Y.cb ≠ Y.fb ∧ Y.mb ≠ Y.fb := by
  obtain ⟨_, h2⟩ := h.words.block
  obtain ⟨_, h3⟩ := h.marks.block
  obtain ⟨_, h4⟩ := h.runs.block
  have h1 := h.head
  unfold Head at h1
  exact ⟨blocks_ne h1 h2 (by decide), blocks_ne h1 h3 (by decide), blocks_ne h1 h4 (by decide), blocks_ne h2 h3 (by decide), blocks_ne h2 h4 (by decide), blocks_ne h3 h4 (by decide)⟩
/-- Is there an object at address a? -/
def Holds (cs ms : List Nat) (a : Int) : Prop := 0 < a ∧ a < cs.length ∧ Marked ms a.toNat = true
/-- A bool is returned, and the world stands. -/
def BoolSame (b : Bool) (w : World) (e : Ending) (w' : World) : Prop := e = .returned (.bool b) ∧ w = w'
theorem holds_yes (Y : Lay) (cs ms : List Nat) (rs : List (Nat × Nat)) (a : Nat) (w : World) (hm : Mem w Y cs ms rs) (hs : Small ms) (hml : ms.length = (cs.length + 63) / 64) (hcl : cs.length ≤ 65536) (h0 : 0 < a) (h1 : a < cs.length) (h2 : Marked ms a = true) :
    Calls Tryz.prog 85 #[.pointer (some ⟨Y.hb, 0, none⟩), .int .i64 (a : Int)] w (BoolSame true w) := by
  have c0 := hm.head.cell0
  have c1 := hm.head.cell1
  have HC := Lib.hid (has_any Y.mb Y.km a ms w hm.marks (by omega) (by omega) (hs _))
  unfold Marked at h2
  have H2 := Lib.hid h2
  clear h2 hm hs hml
  have g0 : decide ((0 : Int) < (a : Int)) = true := by rw [decide_eq_true_iff]; omega
  have g1 : decide ((a : Int) < (cs.length : Int)) = true := by rw [decide_eq_true_iff]; omega
  go_enter Tryz.func85, Tryz.ntmps85
  go_wp2_with fail
  refine HC.out.mono ?_
  rw [H2.out]
  rintro e w' ⟨rfl, rfl⟩
  go_wp2_with fail
  go_ret
  exact ⟨rfl, rfl⟩
theorem holds_unmarked (Y : Lay) (cs ms : List Nat) (rs : List (Nat × Nat)) (a : Nat) (w : World) (hm : Mem w Y cs ms rs) (hs : Small ms) (hml : ms.length = (cs.length + 63) / 64) (hcl : cs.length ≤ 65536) (h0 : 0 < a) (h1 : a < cs.length) (h2 : Marked ms a = false) :
    Calls Tryz.prog 85 #[.pointer (some ⟨Y.hb, 0, none⟩), .int .i64 (a : Int)] w (BoolSame false w) := by
  have c0 := hm.head.cell0
  have c1 := hm.head.cell1
  have HC := Lib.hid (has_any Y.mb Y.km a ms w hm.marks (by omega) (by omega) (hs _))
  unfold Marked at h2
  have H2 := Lib.hid h2
  clear h2 hm hs hml
  have g0 : decide ((0 : Int) < (a : Int)) = true := by rw [decide_eq_true_iff]; omega
  have g1 : decide ((a : Int) < (cs.length : Int)) = true := by rw [decide_eq_true_iff]; omega
  go_enter Tryz.func85, Tryz.ntmps85
  go_wp2_with fail
  refine HC.out.mono ?_
  rw [H2.out]
  rintro e w' ⟨rfl, rfl⟩
  go_wp2_with fail
  go_ret
  exact ⟨rfl, rfl⟩
theorem holds_low (Y : Lay) (cs ms : List Nat) (rs : List (Nat × Nat)) (a : Int) (w : World) (hm : Mem w Y cs ms rs) (h0 : a ≤ 0) :
    Calls Tryz.prog 85 #[.pointer (some ⟨Y.hb, 0, none⟩), .int .i64 a] w (BoolSame false w) := by
  have c0 := hm.head.cell0
  have c1 := hm.head.cell1
  have g0 : decide ((0 : Int) < a) = false := by rw [decide_eq_false_iff_not]; omega
  clear hm
  go_enter Tryz.func85, Tryz.ntmps85
  go_wp2_with fail
  go_ret
  exact ⟨rfl, rfl⟩
theorem holds_high (Y : Lay) (cs ms : List Nat) (rs : List (Nat × Nat)) (a : Int) (w : World) (hm : Mem w Y cs ms rs) (h0 : (cs.length : Int) ≤ a) :
    Calls Tryz.prog 85 #[.pointer (some ⟨Y.hb, 0, none⟩), .int .i64 a] w (BoolSame false w) := by
  by_cases h1 : a ≤ 0
  · exact holds_low Y cs ms rs a w hm h1
  · have c0 := hm.head.cell0
    have c1 := hm.head.cell1
    have g0 : decide ((0 : Int) < a) = true := by rw [decide_eq_true_iff]; omega
    have g1 : decide (a < (cs.length : Int)) = false := by rw [decide_eq_false_iff_not]; omega
    clear hm
    go_enter Tryz.func85, Tryz.ntmps85
    go_wp2_with fail
    go_ret
    exact ⟨rfl, rfl⟩
theorem holds_no (Y : Lay) (cs ms : List Nat) (rs : List (Nat × Nat)) (a : Int) (w : World) (hm : Mem w Y cs ms rs) (hs : Small ms) (hml : ms.length = (cs.length + 63) / 64) (hcl : cs.length ≤ 65536) (h : ¬ Holds cs ms a) :
    Calls Tryz.prog 85 #[.pointer (some ⟨Y.hb, 0, none⟩), .int .i64 a] w (BoolSame false w) := by
  by_cases h0 : a ≤ 0
  · exact holds_low Y cs ms rs a w hm h0
  · by_cases h1 : (cs.length : Int) ≤ a
    · exact holds_high Y cs ms rs a w hm h1
    · obtain ⟨n, rfl⟩ := Int.eq_ofNat_of_zero_le (show 0 ≤ a by omega)
      refine holds_unmarked Y cs ms rs n w hm hs hml hcl (by omega) (by omega) ?_
      by_cases hmk : Marked ms n = true
      · exact absurd ⟨by omega, by omega, by simpa using hmk⟩ h
      · simpa using hmk
/-- Where the fields of the object at address a begin. -/
def fieldsAddr (Y : Lay) (a n : Nat) : Option Addr := if n = 0 then some ⟨Y.cb, 0, none⟩ else some ⟨Y.cb, a + 1, none⟩
def FieldsSame (Y : Lay) (a n : Nat) (w : World) (e : Ending) (w' : World) : Prop := e = .returned (.slice (fieldsAddr Y a n) n n) ∧ w = w'
theorem fields_any (Y : Lay) (cs ms : List Nat) (rs : List (Nat × Nat)) (a n : Nat) (w : World) (hm : Mem w Y cs ms rs) (_hcl : cs.length ≤ 65536) (hh : cs.getD a 0 / 8 = n) (hfit : a + 1 + n ≤ cs.length) :
    Calls Tryz.prog 86 #[.pointer (some ⟨Y.hb, 0, none⟩), .int .i64 (a : Int)] w (FieldsSame Y a n w) := by
  have c0 := hm.head.cell0
  have hc := hm.words.cell a (by omega)
  have hcap := hm.words.cap
  generalize cs.getD a 0 = x at *
  have hn1 := hcap.1
  have hn2 := hcap.2
  clear hm hcap
  have hh2 : ((x : Int) / 8) = (n : Int) := by omega
  have hh3 : x / 8 = n := hh
  clear hh
  rcases n with _ | n
  · go_enter Tryz.func86, Tryz.ntmps86
    go_wp2_with fail
    go_ret
    exact ⟨rfl, rfl⟩
  · have hn3 : ¬ (n + 1 = 0) := by omega
    have hn4 : a + 1 + (n + 1) - (a + 1) = n + 1 := by omega
    go_enter Tryz.func86, Tryz.ntmps86
    go_wp2_with fail
    go_ret
    refine ⟨?_, rfl⟩
    rw [show fieldsAddr Y a (n + 1) = some ⟨Y.cb, a + 1, none⟩ from rfl, ← hn4]
    simp [Nat.add_sub_cancel_left]
def FieldSame (p : Option Addr) (err : Int) (w : World) (e : Ending) (w' : World) : Prop := e = .returned (.tuple #[.pointer p, .int .i64 err]) ∧ w = w'
theorem field_addr (Y : Lay) (cs ms : List Nat) (rs : List (Nat × Nat)) (a i : Int) (w : World) (hm : Mem w Y cs ms rs) (hs : Small ms) (hml : ms.length = (cs.length + 63) / 64) (hcl : cs.length ≤ 65536) (h : ¬ Holds cs ms a) :
    Calls Tryz.prog 75 #[.pointer (some ⟨Y.hb, 0, none⟩), .int .i64 a, .int .i64 i] w (FieldSame none 7 w) := by
  have HC := Lib.hid (holds_no Y cs ms rs a w hm hs hml hcl h)
  clear hm
  go_enter Tryz.func75, Tryz.ntmps75
  go_wp2_with fail
  refine HC.out.mono ?_
  rintro e w' ⟨rfl, rfl⟩
  go_wp2_with fail
  go_ret2
  exact ⟨rfl, rfl⟩
theorem field_range (Y : Lay) (cs ms : List Nat) (rs : List (Nat × Nat)) (a n : Nat) (i : Int) (w : World) (hm : Mem w Y cs ms rs) (hs : Small ms) (hml : ms.length = (cs.length + 63) / 64) (hcl : cs.length ≤ 65536) (h0 : 0 < a) (hmk : Marked ms a = true) (hh : cs.getD a 0 / 8 = n) (hfit : a + 1 + n ≤ cs.length) (hi : i < 0 ∨ (n : Int) ≤ i) :
    Calls Tryz.prog 75 #[.pointer (some ⟨Y.hb, 0, none⟩), .int .i64 (a : Int), .int .i64 i] w (FieldSame none 2 w) := by
  have HC := Lib.hid (holds_yes Y cs ms rs a w hm hs hml hcl h0 (by omega) hmk)
  have HF := Lib.hid (fields_any Y cs ms rs a n w hm hcl hh hfit)
  clear hm hh
  by_cases h1 : i < 0
  · have g0 : decide (i < 0) = true := by rw [decide_eq_true_iff]; omega
    go_enter Tryz.func75, Tryz.ntmps75
    go_wp2_with fail
    refine HC.out.mono ?_
    rintro e w' ⟨rfl, rfl⟩
    go_wp2_with fail
    refine HF.out.mono ?_
    rintro e w' ⟨rfl, rfl⟩
    generalize fieldsAddr Y a n = A at *
    go_wp2_with fail
    go_ret2
    exact ⟨rfl, rfl⟩
  · have g0 : decide (i < 0) = false := by rw [decide_eq_false_iff_not]; omega
    have g1 : decide ((n : Int) ≤ i) = true := by rw [decide_eq_true_iff]; omega
    go_enter Tryz.func75, Tryz.ntmps75
    go_wp2_with fail
    refine HC.out.mono ?_
    rintro e w' ⟨rfl, rfl⟩
    go_wp2_with fail
    refine HF.out.mono ?_
    rintro e w' ⟨rfl, rfl⟩
    generalize fieldsAddr Y a n = A at *
    go_wp2_with fail
    go_ret2
    exact ⟨rfl, rfl⟩
theorem field_ok (Y : Lay) (cs ms : List Nat) (rs : List (Nat × Nat)) (a n i : Nat) (w : World) (hm : Mem w Y cs ms rs) (hs : Small ms) (hml : ms.length = (cs.length + 63) / 64) (hcl : cs.length ≤ 65536) (h0 : 0 < a) (hmk : Marked ms a = true) (hh : cs.getD a 0 / 8 = n) (hfit : a + 1 + n ≤ cs.length) (hi : i < n) :
    Calls Tryz.prog 75 #[.pointer (some ⟨Y.hb, 0, none⟩), .int .i64 (a : Int), .int .i64 (i : Int)] w (FieldSame (some ⟨Y.cb, a + 1 + i, none⟩) 0 w) := by
  have HC := Lib.hid (holds_yes Y cs ms rs a w hm hs hml hcl h0 (by omega) hmk)
  have HF := Lib.hid (fields_any Y cs ms rs a n w hm hcl hh hfit)
  have HA := Lib.hid (show fieldsAddr Y a n = some ⟨Y.cb, a + 1, none⟩ by unfold fieldsAddr; rw [if_neg (by omega)])
  clear hm hh
  have g0 : decide ((i : Int) < 0) = false := by rw [decide_eq_false_iff_not]; omega
  have g1 : decide ((n : Int) ≤ (i : Int)) = false := by rw [decide_eq_false_iff_not]; omega
  go_enter Tryz.func75, Tryz.ntmps75
  go_wp2_with fail
  refine HC.out.mono ?_
  rintro e w' ⟨rfl, rfl⟩
  go_wp2_with fail
  refine HF.out.mono ?_
  unfold FieldsSame
  rw [HA.out]
  rintro e w' ⟨rfl, rfl⟩
  go_wp2_with fail
  go_ret2
  exact ⟨rfl, rfl⟩
def TwoSame (x : Value) (err : Int) (w : World) (e : Ending) (w' : World) : Prop := e = .returned (.tuple #[x, .int .i64 err]) ∧ w = w'
theorem get_addr (Y : Lay) (cs ms : List Nat) (rs : List (Nat × Nat)) (a i : Int) (w : World) (hm : Mem w Y cs ms rs) (hs : Small ms) (hml : ms.length = (cs.length + 63) / 64) (hcl : cs.length ≤ 65536) (h : ¬ Holds cs ms a) :
    Calls Tryz.prog 43 #[.pointer (some ⟨Y.hb, 0, none⟩), .int .i64 a, .int .i64 i] w (TwoSame (.int .u64 0) 7 w) := by
  have HC := Lib.hid (field_addr Y cs ms rs a i w hm hs hml hcl h)
  clear hm
  go_enter Tryz.func43, Tryz.ntmps43
  go_wp2_with fail
  refine HC.out.mono ?_
  rintro e w' ⟨rfl, rfl⟩
  go_wp2_with fail
  go_ret2
  exact ⟨rfl, rfl⟩
theorem get_range (Y : Lay) (cs ms : List Nat) (rs : List (Nat × Nat)) (a n : Nat) (i : Int) (w : World) (hm : Mem w Y cs ms rs) (hs : Small ms) (hml : ms.length = (cs.length + 63) / 64) (hcl : cs.length ≤ 65536) (h0 : 0 < a) (hmk : Marked ms a = true) (hh : cs.getD a 0 / 8 = n) (hfit : a + 1 + n ≤ cs.length) (hi : i < 0 ∨ (n : Int) ≤ i) :
    Calls Tryz.prog 43 #[.pointer (some ⟨Y.hb, 0, none⟩), .int .i64 (a : Int), .int .i64 i] w (TwoSame (.int .u64 0) 2 w) := by
  have HC := Lib.hid (field_range Y cs ms rs a n i w hm hs hml hcl h0 hmk hh hfit hi)
  clear hm hi hh
  go_enter Tryz.func43, Tryz.ntmps43
  go_wp2_with fail
  refine HC.out.mono ?_
  rintro e w' ⟨rfl, rfl⟩
  go_wp2_with fail
  go_ret2
  exact ⟨rfl, rfl⟩
theorem get_ok (Y : Lay) (cs ms : List Nat) (rs : List (Nat × Nat)) (a n i : Nat) (w : World) (hm : Mem w Y cs ms rs) (hs : Small ms) (hml : ms.length = (cs.length + 63) / 64) (hcl : cs.length ≤ 65536) (h0 : 0 < a) (hmk : Marked ms a = true) (hh : cs.getD a 0 / 8 = n) (hfit : a + 1 + n ≤ cs.length) (hi : i < n) :
    Calls Tryz.prog 43 #[.pointer (some ⟨Y.hb, 0, none⟩), .int .i64 (a : Int), .int .i64 (i : Int)] w (TwoSame (.int .u64 (cs.getD (a + 1 + i) 0 : Nat)) 0 w) := by
  have HC := Lib.hid (field_ok Y cs ms rs a n i w hm hs hml hcl h0 hmk hh hfit hi)
  have hc := hm.words.cell (a + 1 + i) (by omega)
  generalize cs.getD (a + 1 + i) 0 = x at *
  clear hm hi hh
  go_enter Tryz.func43, Tryz.ntmps43
  go_wp2_with fail
  refine HC.out.mono ?_
  rintro e w' ⟨rfl, rfl⟩
  go_wp2_with fail
  go_ret2
  exact ⟨rfl, rfl⟩
def OneSame (err : Int) (w : World) (e : Ending) (w' : World) : Prop := e = .returned (.int .i64 err) ∧ w = w'
theorem set_addr (Y : Lay) (cs ms : List Nat) (rs : List (Nat × Nat)) (a i x : Int) (w : World) (hm : Mem w Y cs ms rs) (hs : Small ms) (hml : ms.length = (cs.length + 63) / 64) (hcl : cs.length ≤ 65536) (h : ¬ Holds cs ms a) :
    Calls Tryz.prog 71 #[.pointer (some ⟨Y.hb, 0, none⟩), .int .i64 a, .int .i64 i, .int .u64 x] w (OneSame 7 w) := by
  have HC := Lib.hid (field_addr Y cs ms rs a i w hm hs hml hcl h)
  clear hm
  go_enter Tryz.func71, Tryz.ntmps71
  go_wp2_with fail
  refine HC.out.mono ?_
  rintro e w' ⟨rfl, rfl⟩
  go_wp2_with fail
  go_ret
  exact ⟨rfl, rfl⟩
theorem set_range (Y : Lay) (cs ms : List Nat) (rs : List (Nat × Nat)) (a n : Nat) (i x : Int) (w : World) (hm : Mem w Y cs ms rs) (hs : Small ms) (hml : ms.length = (cs.length + 63) / 64) (hcl : cs.length ≤ 65536) (h0 : 0 < a) (hmk : Marked ms a = true) (hh : cs.getD a 0 / 8 = n) (hfit : a + 1 + n ≤ cs.length) (hi : i < 0 ∨ (n : Int) ≤ i) :
    Calls Tryz.prog 71 #[.pointer (some ⟨Y.hb, 0, none⟩), .int .i64 (a : Int), .int .i64 i, .int .u64 x] w (OneSame 2 w) := by
  have HC := Lib.hid (field_range Y cs ms rs a n i w hm hs hml hcl h0 hmk hh hfit hi)
  clear hm hi hh
  go_enter Tryz.func71, Tryz.ntmps71
  go_wp2_with fail
  refine HC.out.mono ?_
  rintro e w' ⟨rfl, rfl⟩
  go_wp2_with fail
  go_ret
  exact ⟨rfl, rfl⟩
def SetDone (Y : Lay) (cs ms : List Nat) (rs : List (Nat × Nat)) (w : World) (e : Ending) (w' : World) : Prop := e = .returned (.int .i64 0) ∧ Mem w' Y cs ms rs ∧ Turned Y.own w w'
theorem set_ok (Y : Lay) (cs ms : List Nat) (rs : List (Nat × Nat)) (a n i x : Nat) (w : World) (hm : Mem w Y cs ms rs) (hs : Small ms) (hml : ms.length = (cs.length + 63) / 64) (hcl : cs.length ≤ 65536) (h0 : 0 < a) (hmk : Marked ms a = true) (hh : cs.getD a 0 / 8 = n) (hfit : a + 1 + n ≤ cs.length) (hi : i < n) :
    Calls Tryz.prog 71 #[.pointer (some ⟨Y.hb, 0, none⟩), .int .i64 (a : Int), .int .i64 (i : Int), .int .u64 (x : Int)] w (SetDone Y (cs.set (a + 1 + i) x) ms rs w) := by
  have HC := Lib.hid (field_ok Y cs ms rs a n i w hm hs hml hcl h0 hmk hh hfit hi)
  have hc := hm.words.cell (a + 1 + i) (by omega)
  have hf := hm.words.frozen (a + 1 + i)
  have HM := Lib.hid hm
  clear hm hi hh
  go_enter Tryz.func71, Tryz.ntmps71
  go_wp2_with fail
  refine HC.out.mono ?_
  rintro e w' ⟨rfl, rfl⟩
  go_wp2_with fail
  go_ret
  obtain ⟨n1, n2, n3, n4, n5, n6⟩ := HM.out.ne
  have hst := HM.out.words.set (a + 1 + i) x
  refine ⟨rfl, ⟨?_, hst.1, HM.out.marks.keep (Below.heap_setCell _ _ _ _ (fun e => n4 e.symm)), HM.out.runs.keep (Below.heap_setCell _ _ _ _ (fun e => n5 e.symm))⟩, (Turned.refl _ _).setCell _ _ (.inr (.inl rfl))⟩
  rw [List.length_set]
  exact HM.out.head.keep (Below.heap_setCell _ _ _ _ n1)
end Go.Proofs.YtdkbgdjkdalalaaGreatDoor
