/-
  The walk of a step of both heaps: they answer alike, and hold alike behind it.
-/
import Derived.Test.YtbmkjlpjgkfjcaaDoorHTwin
namespace Go.Proofs.YtbmkjlpjgkfjcaaDoor
open Go.RowKit
theorem used_len (L : List Ob) : L.length ≤ usedBy L := by
  induction L with
  | nil => exact Nat.le_refl _
  | cons o L ih => simp only [List.length_cons, usedBy]; omega
theorem lies_len {m : Nat} {L : List Ob} (h : Lies m 1 L) (hm : m ≤ 65536) : L.length ≤ 65536 := by
  have h1 := free_sum m 1 L h
  have h2 := used_len L
  omega
theorem lies_fields {m : Nat} {L : List Ob} (h : Lies m 1 L) (hm : m ≤ 65536) : ∀ o ∈ L, o.fs.length ≤ 65536 := fun o ho => by
  have h1 := lies_mem m 1 L h o ho
  have hnx : o.next = o.at_ + 1 + o.fs.length := rfl
  omega
/-- They answered alike, and hold alike. -/
def DoIs (F : Nat → Prop) (q r m : Nat) (w : World) (e : Ending) (w' : World) : Prop := ∃ L', e = .returned (.bool true) ∧ TwinStep F q r m L' L' w w'
/-- The step's own block, beside what stood. -/
def Boxed (F : Nat → Prop) (w : World) (b : Nat) : Prop := F b ∨ b = w.heap.size
theorem step_back {F : Nat → Prop} {q r m : Nat} {L K : List Ob} {w w0 w' : World} (hb : Below w.heap.size w w0) (_hF : ∀ b, F b → b < w.heap.size) (h : TwinStep (Boxed F w) q r m L K w0 w') : TwinStep F q r m L K w w' :=
  ⟨h.1.less fun _ hb => .inl hb, ⟨h.2.os.trans hb.os, h.2.tape.trans hb.tape, h.2.output.trans hb.output, Nat.le_trans hb.size h.2.size, fun k hk hn => (h.2.block k (Nat.lt_of_lt_of_le hk hb.size) (fun hx => hn fun hF => hx (.inl hF))).trans (hb.block k hk)⟩⟩
theorem TwinStep.then {F : Nat → Prop} {q r m : Nat} {L K L' K' : List Ob} {a b c : World} (h : TwinStep F q r m L K a b) (k : TwinStep F q r m L' K' b c) : TwinStep F q r m L' K' a c := ⟨k.1, h.2.trans k.2⟩
set_option maxHeartbeats 2000000 in
set_option maxRecDepth 100000 in
theorem do_alloc (F : Nat → Prop) (q r m : Nat) (L : List Ob) (a b : Int) (x : Nat) (w : World) (h : Twin F w q r m L L) (hF : ∀ b, F b → b < w.heap.size) (hm : m ≤ 65536) :
    Calls Tryd.prog 16 #[.pointer (some ⟨q, 0, none⟩), .pointer (some ⟨r, 0, none⟩), .agg #[.int .i64 0, .int .i64 a, .int .i64 b, .int .u64 (x : Int)]] w (DoIs F q r m w) := by
  have hl := h.lies
  have hb0 : Below w.heap.size w (w.alloc (.cells #[.int .i64 0, .int .i64 a, .int .i64 b, .int .u64 (x : Int)] 32)) := (Below.refl _ w).alloc (Nat.le_refl _) _
  have H0 : Hid (Twin (Boxed F w) (w.alloc (.cells #[.int .i64 0, .int .i64 a, .int .i64 b, .int .u64 (x : Int)] 32)) q r m L L) := Lib.hid (h.more _)
  have HB0 := Lib.hid hb0
  have HL := Lib.hid hl
  have HF := Lib.hid hF
  have hc1 : (w.alloc (.cells #[.int .i64 0, .int .i64 a, .int .i64 b, .int .u64 (x : Int)] 32)).cell? ⟨w.heap.size, 1, none⟩ = some (.int .i64 a) := by rw [Lib.cell_of_heap (heap_alloc_new w _)]; rfl
  have hc2 : (w.alloc (.cells #[.int .i64 0, .int .i64 a, .int .i64 b, .int .u64 (x : Int)] 32)).cell? ⟨w.heap.size, 2, none⟩ = some (.int .i64 b) := by rw [Lib.cell_of_heap (heap_alloc_new w _)]; rfl
  have HC1 := Lib.hid hc1
  have HC2 := Lib.hid hc2
  have hlen := lies_len hl hm
  clear h hl hb0 hF hc1 hc2
  go_enter Tryd.func16, Tryd.ntmps16
  go_wp2_with fail
  refine (t_Alloc _ q r m L L _ H0.out a b).mono ?_
  rintro e w1 ⟨rfl, hs1⟩
  have k1 := (hs1.2.cell (p := ⟨w.heap.size, 1, none⟩) (.inr rfl) (by simp)).trans HC1.out
  have k2 := (hs1.2.cell (p := ⟨w.heap.size, 2, none⟩) (.inr rfl) (by simp)).trans HC2.out
  have HS1 := Lib.hid hs1
  clear hs1
  go_wp2_with fail
  refine (s_Alloc _ q r m _ L _ HS1.out.1 a b HL.out hm hlen).mono ?_
  rintro e w2 ⟨rfl, hs2⟩
  have HS2 := Lib.hid hs2
  clear hs2
  have B1 : ((hAlloc m L a b).1 == (hAlloc m L a b).1) = true := by simp
  have B2 : ((hAlloc m L a b).2.1 == (hAlloc m L a b).2.1) = true := by simp
  go_wp2_with fail
  go_ret
  exact ⟨_, rfl, step_back HB0.out HF.out (HS1.out.then HS2.out)⟩
set_option maxHeartbeats 2000000 in
set_option maxRecDepth 100000 in
theorem do_get (F : Nat → Prop) (q r m : Nat) (L : List Ob) (a b : Int) (x : Nat) (w : World) (h : Twin F w q r m L L) (hF : ∀ b, F b → b < w.heap.size) (hm : m ≤ 65536) :
    Calls Tryd.prog 16 #[.pointer (some ⟨q, 0, none⟩), .pointer (some ⟨r, 0, none⟩), .agg #[.int .i64 2, .int .i64 a, .int .i64 b, .int .u64 (x : Int)]] w (DoIs F q r m w) := by
  have hl := h.lies
  have hb0 : Below w.heap.size w (w.alloc (.cells #[.int .i64 2, .int .i64 a, .int .i64 b, .int .u64 (x : Int)] 32)) := (Below.refl _ w).alloc (Nat.le_refl _) _
  have H0 : Hid (Twin (Boxed F w) (w.alloc (.cells #[.int .i64 2, .int .i64 a, .int .i64 b, .int .u64 (x : Int)] 32)) q r m L L) := Lib.hid (h.more _)
  have HB0 := Lib.hid hb0
  have HL := Lib.hid hl
  have HF := Lib.hid hF
  have hc1 : (w.alloc (.cells #[.int .i64 2, .int .i64 a, .int .i64 b, .int .u64 (x : Int)] 32)).cell? ⟨w.heap.size, 1, none⟩ = some (.int .i64 a) := by rw [Lib.cell_of_heap (heap_alloc_new w _)]; rfl
  have hc2 : (w.alloc (.cells #[.int .i64 2, .int .i64 a, .int .i64 b, .int .u64 (x : Int)] 32)).cell? ⟨w.heap.size, 2, none⟩ = some (.int .i64 b) := by rw [Lib.cell_of_heap (heap_alloc_new w _)]; rfl
  have HC1 := Lib.hid hc1
  have HC2 := Lib.hid hc2
  have hlen := lies_len hl hm
  clear h hl hb0 hF hc1 hc2
  go_enter Tryd.func16, Tryd.ntmps16
  go_wp2_with fail
  refine (t_Get _ q r m L L _ H0.out a b).mono ?_
  rintro e w1 ⟨rfl, rfl⟩
  have k1 := HC1.out
  have k2 := HC2.out
  go_wp2_with fail
  refine (s_Get _ q r m _ L _ H0.out a b HL.out hlen (lies_fields HL.out hm)).mono ?_
  rintro e w2 ⟨rfl, rfl⟩
  have B1 : (((hGet L a b).1 : Int) == ((hGet L a b).1 : Int)) = true := by simp
  have B2 : ((hGet L a b).2 == (hGet L a b).2) = true := by simp
  go_wp2_with fail
  go_ret
  exact ⟨L, rfl, step_back HB0.out HF.out ⟨H0.out, Turned.refl _ _⟩⟩
set_option maxHeartbeats 2000000 in
set_option maxRecDepth 100000 in
theorem do_free (F : Nat → Prop) (q r m : Nat) (L : List Ob) (a b : Int) (x : Nat) (w : World) (h : Twin F w q r m L L) (hF : ∀ b, F b → b < w.heap.size) (hm : m ≤ 65536) :
    Calls Tryd.prog 16 #[.pointer (some ⟨q, 0, none⟩), .pointer (some ⟨r, 0, none⟩), .agg #[.int .i64 1, .int .i64 a, .int .i64 b, .int .u64 (x : Int)]] w (DoIs F q r m w) := by
  have hl := h.lies
  have hb0 : Below w.heap.size w (w.alloc (.cells #[.int .i64 1, .int .i64 a, .int .i64 b, .int .u64 (x : Int)] 32)) := (Below.refl _ w).alloc (Nat.le_refl _) _
  have H0 : Hid (Twin (Boxed F w) (w.alloc (.cells #[.int .i64 1, .int .i64 a, .int .i64 b, .int .u64 (x : Int)] 32)) q r m L L) := Lib.hid (h.more _)
  have HB0 := Lib.hid hb0
  have HL := Lib.hid hl
  have HF := Lib.hid hF
  have hc1 : (w.alloc (.cells #[.int .i64 1, .int .i64 a, .int .i64 b, .int .u64 (x : Int)] 32)).cell? ⟨w.heap.size, 1, none⟩ = some (.int .i64 a) := by rw [Lib.cell_of_heap (heap_alloc_new w _)]; rfl
  have hc2 : (w.alloc (.cells #[.int .i64 1, .int .i64 a, .int .i64 b, .int .u64 (x : Int)] 32)).cell? ⟨w.heap.size, 2, none⟩ = some (.int .i64 b) := by rw [Lib.cell_of_heap (heap_alloc_new w _)]; rfl
  have HC1 := Lib.hid hc1
  have HC2 := Lib.hid hc2
  have hlen := lies_len hl hm
  have HSZ : Hid (w.heap.size < (w.alloc (.cells #[.int .i64 1, .int .i64 a, .int .i64 b, .int .u64 (x : Int)] 32)).heap.size) := Lib.hid (by simp)
  have HSB : Hid (∀ L' K' w', TwinStep (Boxed F w) q r m L' K' (w.alloc (.cells #[.int .i64 1, .int .i64 a, .int .i64 b, .int .u64 (x : Int)] 32)) w' → TwinStep F q r m L' K' w w') := Lib.hid (fun _ _ _ hs => step_back HB0.out HF.out hs)
  have HPB : Hid (Boxed F w w.heap.size) := Lib.hid (.inr rfl)
  clear h hl hb0 hF hc1 hc2
  go_enter Tryd.func16, Tryd.ntmps16
  have B1 : ((hFree L a).1 == (hFree L a).1) = true := by simp
  have HT : Hid (TwinStep (Boxed F w) q r m L L (w.alloc (.cells #[.int .i64 1, .int .i64 a, .int .i64 b, .int .u64 (x : Int)] 32)) (w.alloc (.cells #[.int .i64 1, .int .i64 a, .int .i64 b, .int .u64 (x : Int)] 32)).drew) := Lib.hid ⟨H0.out.drew, Stands.of_below (Below.refl _ _).drew⟩
  go_upto_region 7 with fail
  generalize w.alloc (.cells #[.int .i64 1, .int .i64 a, .int .i64 b, .int .u64 (x : Int)] 32) = w0 at *
  have hw0 : w.heap.size < w0.heap.size := HSZ.out
  generalize w.heap.size = p at *
  have k1 := HC1.out
  go_region_held3 (fun W => W.cell? ⟨p, 1, none⟩ = some (.int .i64 a)) (go_keep)
    (first | (go_at_call 19; refine (t_Free _ q r m _ _ _ HT.out.1 a).mono ?_; rintro e W1 ⟨rfl, hs⟩; have HT' := Lib.hid (HT.out.then hs); clear HT hs; have HT := HT'; clear HT'; have k2 := (HT.out.2.cell (p := ⟨p, 1, none⟩) (HPB.out) hw0).trans HC1.out) | (go_at_call 74; refine (s_Free _ q r m _ _ _ HT.out.1 a HL.out hlen).mono ?_; rintro e W1 ⟨rfl, hs⟩; have HT' := Lib.hid (HT.out.then hs); clear HT hs; have HT := HT'; clear HT'; have k2 := (HT.out.2.cell (p := ⟨p, 1, none⟩) (HPB.out) hw0).trans HC1.out))
  all_goals
    go_wp2_with fail
    go_ret
    exact ⟨_, rfl, HSB.out _ _ _ HT.out⟩
set_option maxHeartbeats 2000000 in
set_option maxRecDepth 100000 in
theorem do_set (F : Nat → Prop) (q r m : Nat) (L : List Ob) (a b : Int) (x : Nat) (w : World) (h : Twin F w q r m L L) (hF : ∀ b, F b → b < w.heap.size) (hm : m ≤ 65536) (hx : x < 18446744073709551616) :
    Calls Tryd.prog 16 #[.pointer (some ⟨q, 0, none⟩), .pointer (some ⟨r, 0, none⟩), .agg #[.int .i64 3, .int .i64 a, .int .i64 b, .int .u64 (x : Int)]] w (DoIs F q r m w) := by
  have hl := h.lies
  have hb0 : Below w.heap.size w (w.alloc (.cells #[.int .i64 3, .int .i64 a, .int .i64 b, .int .u64 (x : Int)] 32)) := (Below.refl _ w).alloc (Nat.le_refl _) _
  have H0 : Hid (Twin (Boxed F w) (w.alloc (.cells #[.int .i64 3, .int .i64 a, .int .i64 b, .int .u64 (x : Int)] 32)) q r m L L) := Lib.hid (h.more _)
  have HB0 := Lib.hid hb0
  have HL := Lib.hid hl
  have HF := Lib.hid hF
  have hc1 : (w.alloc (.cells #[.int .i64 3, .int .i64 a, .int .i64 b, .int .u64 (x : Int)] 32)).cell? ⟨w.heap.size, 1, none⟩ = some (.int .i64 a) := by rw [Lib.cell_of_heap (heap_alloc_new w _)]; rfl
  have hc2 : (w.alloc (.cells #[.int .i64 3, .int .i64 a, .int .i64 b, .int .u64 (x : Int)] 32)).cell? ⟨w.heap.size, 2, none⟩ = some (.int .i64 b) := by rw [Lib.cell_of_heap (heap_alloc_new w _)]; rfl
  have hc3 : (w.alloc (.cells #[.int .i64 3, .int .i64 a, .int .i64 b, .int .u64 (x : Int)] 32)).cell? ⟨w.heap.size, 3, none⟩ = some (.int .u64 (x : Int)) := by rw [Lib.cell_of_heap (heap_alloc_new w _)]; rfl
  have HC3 := Lib.hid hc3
  have HC1 := Lib.hid hc1
  have HC2 := Lib.hid hc2
  have hlen := lies_len hl hm
  have HSZ : Hid (w.heap.size < (w.alloc (.cells #[.int .i64 3, .int .i64 a, .int .i64 b, .int .u64 (x : Int)] 32)).heap.size) := Lib.hid (by simp)
  have HSB : Hid (∀ L' K' w', TwinStep (Boxed F w) q r m L' K' (w.alloc (.cells #[.int .i64 3, .int .i64 a, .int .i64 b, .int .u64 (x : Int)] 32)) w' → TwinStep F q r m L' K' w w') := Lib.hid (fun _ _ _ hs => step_back HB0.out HF.out hs)
  have HPB : Hid (Boxed F w w.heap.size) := Lib.hid (.inr rfl)
  clear h hl hb0 hF hc1 hc2 hc3
  go_enter Tryd.func16, Tryd.ntmps16
  have B1 : ((hSet L a b x).1 == (hSet L a b x).1) = true := by simp
  have HT : Hid (TwinStep (Boxed F w) q r m L L (w.alloc (.cells #[.int .i64 3, .int .i64 a, .int .i64 b, .int .u64 (x : Int)] 32)) (w.alloc (.cells #[.int .i64 3, .int .i64 a, .int .i64 b, .int .u64 (x : Int)] 32)).drew) := Lib.hid ⟨H0.out.drew, Stands.of_below (Below.refl _ _).drew⟩
  go_upto_region 13 with fail
  generalize w.alloc (.cells #[.int .i64 3, .int .i64 a, .int .i64 b, .int .u64 (x : Int)] 32) = w0 at *
  have hw0 : w.heap.size < w0.heap.size := HSZ.out
  generalize w.heap.size = p at *
  have k1 := HC1.out
  have k2 := HC2.out
  have k3 := HC3.out
  go_region_held3 (fun W => W.cell? ⟨p, 1, none⟩ = some (.int .i64 a) ∧ W.cell? ⟨p, 2, none⟩ = some (.int .i64 b) ∧ W.cell? ⟨p, 3, none⟩ = some (.int .u64 (x : Int))) (go_keep)
    (first | (go_at_call 21; refine (t_Set _ q r m _ _ _ HT.out.1 a b x hx).mono ?_; rintro e W1 ⟨rfl, hs⟩; have HT' := Lib.hid (HT.out.then hs); clear HT hs; have HT := HT'; clear HT'; have j1 := (HT.out.2.cell (p := ⟨p, 1, none⟩) (HPB.out) hw0).trans HC1.out; have j2 := (HT.out.2.cell (p := ⟨p, 2, none⟩) (HPB.out) hw0).trans HC2.out; have j3 := (HT.out.2.cell (p := ⟨p, 3, none⟩) (HPB.out) hw0).trans HC3.out) | (go_at_call 68; refine (s_Set _ q r m _ _ _ HT.out.1 a b x HL.out hlen (lies_fields HL.out hm)).mono ?_; rintro e W1 ⟨rfl, hs⟩; have HT' := Lib.hid (HT.out.then hs); clear HT hs; have HT := HT'; clear HT'; have j1 := (HT.out.2.cell (p := ⟨p, 1, none⟩) (HPB.out) hw0).trans HC1.out; have j2 := (HT.out.2.cell (p := ⟨p, 2, none⟩) (HPB.out) hw0).trans HC2.out; have j3 := (HT.out.2.cell (p := ⟨p, 3, none⟩) (HPB.out) hw0).trans HC3.out))
  all_goals
    go_wp2_with fail
    go_ret
    exact ⟨_, rfl, HSB.out _ _ _ HT.out⟩
set_option maxHeartbeats 2000000 in
set_option maxRecDepth 100000 in
theorem do_next (F : Nat → Prop) (q r m : Nat) (L : List Ob) (a b : Int) (x : Nat) (w : World) (h : Twin F w q r m L L) (hF : ∀ b, F b → b < w.heap.size) (hm : m ≤ 65536) (hT : Tab w) (ha : a ≤ 9223372036854775807) :
    Calls Tryd.prog 16 #[.pointer (some ⟨q, 0, none⟩), .pointer (some ⟨r, 0, none⟩), .agg #[.int .i64 4, .int .i64 a, .int .i64 b, .int .u64 (x : Int)]] w (DoIs F q r m w) := by
  have hl := h.lies
  have hb0 : Below w.heap.size w (w.alloc (.cells #[.int .i64 4, .int .i64 a, .int .i64 b, .int .u64 (x : Int)] 32)) := (Below.refl _ w).alloc (Nat.le_refl _) _
  have H0 : Hid (Twin (Boxed F w) (w.alloc (.cells #[.int .i64 4, .int .i64 a, .int .i64 b, .int .u64 (x : Int)] 32)) q r m L L) := Lib.hid (h.more _)
  have HB0 := Lib.hid hb0
  have HL := Lib.hid hl
  have HF := Lib.hid hF
  have hc1 : (w.alloc (.cells #[.int .i64 4, .int .i64 a, .int .i64 b, .int .u64 (x : Int)] 32)).cell? ⟨w.heap.size, 1, none⟩ = some (.int .i64 a) := by rw [Lib.cell_of_heap (heap_alloc_new w _)]; rfl
  have hc2 : (w.alloc (.cells #[.int .i64 4, .int .i64 a, .int .i64 b, .int .u64 (x : Int)] 32)).cell? ⟨w.heap.size, 2, none⟩ = some (.int .i64 b) := by rw [Lib.cell_of_heap (heap_alloc_new w _)]; rfl
  have HTB := Lib.hid (hT.below (hb0.mono (Nat.le_refl _)) hT.lt)
  have HC1 := Lib.hid hc1
  have HC2 := Lib.hid hc2
  have hlen := lies_len hl hm
  have HSZ : Hid (w.heap.size < (w.alloc (.cells #[.int .i64 4, .int .i64 a, .int .i64 b, .int .u64 (x : Int)] 32)).heap.size) := Lib.hid (by simp)
  have HSB : Hid (∀ L' K' w', TwinStep (Boxed F w) q r m L' K' (w.alloc (.cells #[.int .i64 4, .int .i64 a, .int .i64 b, .int .u64 (x : Int)] 32)) w' → TwinStep F q r m L' K' w w') := Lib.hid (fun _ _ _ hs => step_back HB0.out HF.out hs)
  have HPB : Hid (Boxed F w w.heap.size) := Lib.hid (.inr rfl)
  clear h hl hb0 hF hc1 hc2 hT
  go_enter Tryd.func16, Tryd.ntmps16
  have B1 : (((nextOb L a.toNat : Nat) : Int) == ((nextOb L a.toNat : Nat) : Int)) = true := by simp
  have HT : Hid (TwinStep (Boxed F w) q r m L L (w.alloc (.cells #[.int .i64 4, .int .i64 a, .int .i64 b, .int .u64 (x : Int)] 32)) (w.alloc (.cells #[.int .i64 4, .int .i64 a, .int .i64 b, .int .u64 (x : Int)] 32)).drew) := Lib.hid ⟨H0.out.drew, Stands.of_below (Below.refl _ _).drew⟩
  go_upto_region 7 with fail
  generalize w.alloc (.cells #[.int .i64 4, .int .i64 a, .int .i64 b, .int .u64 (x : Int)] 32) = w0 at *
  have hw0 : w.heap.size < w0.heap.size := HSZ.out
  generalize w.heap.size = p at *
  have k1 := HC1.out
  have HX := Lib.hid HT.out.1
  have HTD : Hid (Tab w0.drew) := Lib.hid (HTB.out.below (Below.refl _ w0).drew HTB.out.lt)
  go_region_held3 (fun W => W.cell? ⟨p, 1, none⟩ = some (.int .i64 a)) (go_keep)
    (first | (go_at_call 20; refine (t_Next _ q r m _ _ _ HX.out a HTD.out ha).mono ?_; rintro e W1 ⟨rfl, rfl⟩) | (go_at_call 76; refine (s_Next _ q r m _ _ _ HX.out a hlen).mono ?_; rintro e W1 ⟨rfl, rfl⟩))
  all_goals
    go_wp2_with fail
    go_ret
    exact ⟨_, rfl, HSB.out _ _ _ HT.out⟩
theorem hKind_no {L : List Ob} {a : Int} (h : a < 0 ∨ findOb L a.toNat = none) : hKind L a = (0, 7) := by
  unfold hKind
  split
  · rfl
  · rcases h with h | h
    · omega
    · rw [h]
theorem hSize_no {L : List Ob} {a : Int} (h : a < 0 ∨ findOb L a.toNat = none) : hSize L a = (0, 7) := by
  unfold hSize
  split
  · rfl
  · rcases h with h | h
    · omega
    · rw [h]
theorem hKind_at {L : List Ob} {n : Nat} {o : Ob} (h : findOb L n = some o) : hKind L (n : Int) = (o.kind, 0) := by
  unfold hKind
  rw [if_neg (by omega), Int.toNat_natCast, h]
theorem hSize_at {L : List Ob} {n : Nat} {o : Ob} (h : findOb L n = some o) : hSize L (n : Int) = (o.fs.length, 0) := by
  unfold hSize
  rw [if_neg (by omega), Int.toNat_natCast, h]
set_option maxHeartbeats 2000000 in
set_option maxRecDepth 100000 in
theorem do_kind (F : Nat → Prop) (q r m : Nat) (L : List Ob) (a b : Int) (x : Nat) (w : World) (h : Twin F w q r m L L) (hF : ∀ b, F b → b < w.heap.size) (hm : m ≤ 65536) :
    Calls Tryd.prog 16 #[.pointer (some ⟨q, 0, none⟩), .pointer (some ⟨r, 0, none⟩), .agg #[.int .i64 5, .int .i64 a, .int .i64 b, .int .u64 (x : Int)]] w (DoIs F q r m w) := by
  have hl := h.lies
  have hb0 : Below w.heap.size w (w.alloc (.cells #[.int .i64 5, .int .i64 a, .int .i64 b, .int .u64 (x : Int)] 32)) := (Below.refl _ w).alloc (Nat.le_refl _) _
  have H0 : Hid (Twin (Boxed F w) (w.alloc (.cells #[.int .i64 5, .int .i64 a, .int .i64 b, .int .u64 (x : Int)] 32)) q r m L L) := Lib.hid (h.more _)
  have HB0 := Lib.hid hb0
  have HL := Lib.hid hl
  have HF := Lib.hid hF
  have hc1 : (w.alloc (.cells #[.int .i64 5, .int .i64 a, .int .i64 b, .int .u64 (x : Int)] 32)).cell? ⟨w.heap.size, 1, none⟩ = some (.int .i64 a) := by rw [Lib.cell_of_heap (heap_alloc_new w _)]; rfl
  have hc2 : (w.alloc (.cells #[.int .i64 5, .int .i64 a, .int .i64 b, .int .u64 (x : Int)] 32)).cell? ⟨w.heap.size, 2, none⟩ = some (.int .i64 b) := by rw [Lib.cell_of_heap (heap_alloc_new w _)]; rfl
  have HC1 := Lib.hid hc1
  have HC2 := Lib.hid hc2
  have hlen := lies_len hl hm
  have HSZ : Hid (w.heap.size < (w.alloc (.cells #[.int .i64 5, .int .i64 a, .int .i64 b, .int .u64 (x : Int)] 32)).heap.size) := Lib.hid (by simp)
  have HSB : Hid (∀ L' K' w', TwinStep (Boxed F w) q r m L' K' (w.alloc (.cells #[.int .i64 5, .int .i64 a, .int .i64 b, .int .u64 (x : Int)] 32)) w' → TwinStep F q r m L' K' w w') := Lib.hid (fun _ _ _ hs => step_back HB0.out HF.out hs)
  have HPB : Hid (Boxed F w w.heap.size) := Lib.hid (.inr rfl)
  clear h hl hb0 hF hc1 hc2
  go_enter Tryd.func16, Tryd.ntmps16
  go_upto_region 17 with fail
  generalize w.alloc (.cells #[.int .i64 5, .int .i64 a, .int .i64 b, .int .u64 (x : Int)] 32) = w0 at *
  have hw0 : w.heap.size < w0.heap.size := HSZ.out
  generalize w.heap.size = p at *
  have k1 := HC1.out
  have hsn := H0.out
  obtain ⟨S, T, _, hR, _⟩ := hsn
  obtain ⟨A, c, c0, c1, hs⟩ := hR.seen
  have HSN := Lib.hid hs
  clear hR hs
  go_wp2_with fail
  refine (t_Kind _ q r m _ _ _ H0.out a).mono ?_
  rintro e W1 ⟨rfl, rfl⟩
  go_wp2_with fail
  refine (t_Size _ q r m _ _ _ H0.out a).mono ?_
  rintro e W1 ⟨rfl, rfl⟩
  go_wp2_with fail
  refine (s_Find _ q r m _ _ _ H0.out a hlen).mono ?_
  rintro e W1 ⟨rfl, hfi⟩
  rcases hfi with ⟨rfl, hno⟩ | ⟨k, o, rfl, ho, ha⟩
  · have hK := Lib.hid (hKind_no (find_not hno))
    have hZ := Lib.hid (hSize_no (find_not hno))
    have B1 : ((hKind L a).2 == 7) = true := by rw [hK.out]; rfl
    have B2 : ((hSize L a).2 == 7) = true := by rw [hZ.out]; rfl
    clear hno
    go_wp2_with fail
    go_ret
    exact ⟨L, rfl, HSB.out _ _ _ ⟨H0.out, Turned.refl _ _⟩⟩
  · subst ha
    have hf := (find_at HL.out ho).1
    have hK := Lib.hid (hKind_at hf)
    have hZ := Lib.hid (hSize_at hf)
    have hkl : k < L.length := (List.getElem?_eq_some_iff.1 ho).1
    obtain ⟨g, rfl, hg, _, x1, Fs, cf, x2, _⟩ := HSN.out k o ho
    have g0 : decide ((k : Int) < 0) = false := by rw [decide_eq_false_iff_not]; omega
    have B1 : ((hKind L (o.at_ : Int)).2 == 0) = true := by rw [hK.out]; rfl
    have B2 : ((hSize L (o.at_ : Int)).2 == 0) = true := by rw [hZ.out]; rfl
    have B3 : (((hKind L (o.at_ : Int)).1 : Int) == (o.kind : Int)) = true := by rw [hK.out]; simp
    have B4 : (((hSize L (o.at_ : Int)).1 : Int) == (o.fs.length : Int)) = true := by rw [hZ.out]; simp
    clear hf ho
    go_wp2_with fail
    go_ret
    exact ⟨L, rfl, HSB.out _ _ _ ⟨H0.out, Turned.refl _ _⟩⟩
theorem Twin.cell0 {F : Nat → Prop} {w : World} {q r m : Nat} {L K : List Ob} (h : Twin F w q r m L K) : w.cell? ⟨r, 0, none⟩ = some (.int .i64 (m : Int)) := by
  obtain ⟨S, T, _, hR, _⟩ := h
  obtain ⟨A, c, c0, _⟩ := hR.seen
  exact c0
set_option maxHeartbeats 2000000 in
set_option maxRecDepth 100000 in
theorem do_else (F : Nat → Prop) (q r m : Nat) (L : List Ob) (kd a b : Int) (x : Nat) (w : World) (h : Twin F w q r m L L) (hF : ∀ b, F b → b < w.heap.size) (hm : m ≤ 65536) (hkd : kd < 0 ∨ 5 < kd) :
    Calls Tryd.prog 16 #[.pointer (some ⟨q, 0, none⟩), .pointer (some ⟨r, 0, none⟩), .agg #[.int .i64 kd, .int .i64 a, .int .i64 b, .int .u64 (x : Int)]] w (DoIs F q r m w) := by
  have hl := h.lies
  have hb0 : Below w.heap.size w (w.alloc (.cells #[.int .i64 kd, .int .i64 a, .int .i64 b, .int .u64 (x : Int)] 32)) := (Below.refl _ w).alloc (Nat.le_refl _) _
  have H0 : Hid (Twin (Boxed F w) (w.alloc (.cells #[.int .i64 kd, .int .i64 a, .int .i64 b, .int .u64 (x : Int)] 32)) q r m L L) := Lib.hid (h.more _)
  have HB0 := Lib.hid hb0
  have HL := Lib.hid hl
  have HF := Lib.hid hF
  have hc1 : (w.alloc (.cells #[.int .i64 kd, .int .i64 a, .int .i64 b, .int .u64 (x : Int)] 32)).cell? ⟨w.heap.size, 1, none⟩ = some (.int .i64 a) := by rw [Lib.cell_of_heap (heap_alloc_new w _)]; rfl
  have hc2 : (w.alloc (.cells #[.int .i64 kd, .int .i64 a, .int .i64 b, .int .u64 (x : Int)] 32)).cell? ⟨w.heap.size, 2, none⟩ = some (.int .i64 b) := by rw [Lib.cell_of_heap (heap_alloc_new w _)]; rfl
  have HC1 := Lib.hid hc1
  have HC2 := Lib.hid hc2
  have hlen := lies_len hl hm
  have HSZ : Hid (w.heap.size < (w.alloc (.cells #[.int .i64 kd, .int .i64 a, .int .i64 b, .int .u64 (x : Int)] 32)).heap.size) := Lib.hid (by simp)
  have HSB : Hid (∀ L' K' w', TwinStep (Boxed F w) q r m L' K' (w.alloc (.cells #[.int .i64 kd, .int .i64 a, .int .i64 b, .int .u64 (x : Int)] 32)) w' → TwinStep F q r m L' K' w w') := Lib.hid (fun _ _ _ hs => step_back HB0.out HF.out hs)
  have HPB : Hid (Boxed F w w.heap.size) := Lib.hid (.inr rfl)
  clear h hl hb0 hF hc1 hc2
  go_enter Tryd.func16, Tryd.ntmps16
  have E0 : (kd == 0) = false := by rw [beq_eq_false_iff_ne]; omega
  have E1 : (kd == 1) = false := by rw [beq_eq_false_iff_ne]; omega
  have E2 : (kd == 2) = false := by rw [beq_eq_false_iff_ne]; omega
  have E3 : (kd == 3) = false := by rw [beq_eq_false_iff_ne]; omega
  have E4 : (kd == 4) = false := by rw [beq_eq_false_iff_ne]; omega
  have E5 : (kd == 5) = false := by rw [beq_eq_false_iff_ne]; omega
  clear hkd
  go_upto_region 23 with fail
  generalize w.alloc (.cells #[.int .i64 kd, .int .i64 a, .int .i64 b, .int .u64 (x : Int)] 32) = w0 at *
  have hw0 : w.heap.size < w0.heap.size := HSZ.out
  generalize w.heap.size = p at *
  have k1 := HC1.out
  go_wp2_with fail
  refine (s_Room _ q r m _ _ _ H0.out HL.out hm hlen).mono ?_
  rintro e w1 ⟨rfl, hb1⟩
  have HT : Hid (TwinStep (Boxed F w) q r m L L w0 w1.drew) := Lib.hid ⟨(H0.out.below hb1).drew, (Stands.of_below hb1).drew⟩
  have kr0 : w1.cell? ⟨r, 0, none⟩ = some (.int .i64 (m : Int)) := (H0.out.below hb1).cell0
  have B1 : (((roomOf m L : Nat) : Int) == ((roomOf m L : Nat) : Int)) = true := by simp
  have B2 : (((longOf m L : Nat) : Int) == ((longOf m L : Nat) : Int)) = true := by simp
  have B3 : ((m : Int) == (m : Int)) = true := by simp
  clear hb1
  go_upto_region 24 with fail
  go_region_held3 (fun W => W.cell? ⟨r, 0, none⟩ = some (.int .i64 (m : Int))) (go_keep)
    (first | (go_at_call 70; refine (t_Room _ q r m _ _ _ HT.out.1).mono ?_; rintro e W1 ⟨rfl, hb⟩; have HT' : Hid (TwinStep (Boxed F w) q r m L L w0 W1) := Lib.hid ⟨HT.out.1.below hb, HT.out.2.trans (Stands.of_below hb)⟩; clear HT hb; have HT := HT'; clear HT'; have kr := HT.out.1.cell0) | (go_at_call 71; refine (t_Longest _ q r m _ _ _ HT.out.1).mono ?_; rintro e W1 ⟨rfl, hb⟩; have HT' : Hid (TwinStep (Boxed F w) q r m L L w0 W1) := Lib.hid ⟨HT.out.1.below hb, HT.out.2.trans (Stands.of_below hb)⟩; clear HT hb; have HT := HT'; clear HT'; have kr := HT.out.1.cell0) | (go_at_call 72; refine (t_Words _ q r m _ _ _ HT.out.1).mono ?_; rintro e W1 ⟨rfl, rfl⟩))
  all_goals
    go_wp2_with fail
    go_ret
    exact ⟨_, rfl, HSB.out _ _ _ HT.out⟩
end Go.Proofs.YtbmkjlpjgkfjcaaDoor
