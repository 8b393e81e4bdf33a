/-
  The collector beside blocks that stand; the laws' own first look at it.
-/
import Derived.Test.YtdkbgdjkdalalaaGreatDoorGBoth
namespace Go.Proofs.YtdkbgdjkdalalaaGreatDoor
open Go.RowKit
def GIn (F : Nat → Prop) (w : World) (g q words : Nat) (s : GS) : Prop := ∃ U : Nat → Prop, GAt w g q U words s ∧ (∀ b, U b → ¬ F b) ∧ (∀ b, U b → b < w.heap.size) ∧ ∀ b, F b → b < w.heap.size
def GGo (F : Nat → Prop) (g q words : Nat) (s : GS) (w w' : World) : Prop := GIn F w' g q words s ∧ Stands F w w'
theorem GAt.bound {w : World} {g q words : Nat} {U : Nat → Prop} {s : GS} (h : GAt w g q U words s) : GAt w g q (fun b => U b ∧ b < w.heap.size) words s := by
  obtain ⟨S, c, cs, Q, h⟩ := h
  have hb := h.bound
  exact ⟨S, c, cs, Q, h.heap, h.queue.mono fun b hl hR => ⟨⟨hR.1, hl⟩, hR.2⟩, h.cols, h.clen, h.small, h.col, h.ordered, h.same, h.inv, fun b hS => ⟨h.inU b hS, h.sb b hS⟩, ⟨h.gU, hb.2⟩, ⟨h.cU, hb.1⟩, h.gS, h.cS, h.sb⟩
theorem go_of {F : Nat → Prop} {w w' : World} {g q words : Nat} {U : Nat → Prop} {t : GS} (h2 : ∀ b, U b → ¬ F b) (h4 : ∀ b, F b → b < w.heap.size) (hs : GStep g q U words t w w') : GGo F g q words t w w' := by
  refine ⟨⟨_, hs.1.bound, ?_, fun b hb => hb.2, fun b hF => Nat.lt_of_lt_of_le (h4 b hF) hs.2.size⟩, hs.2.mono h2⟩
  rintro b ⟨hU | hz, _⟩ hF
  · exact h2 b hU hF
  · have := h4 b hF; omega
theorem GIn.below {F : Nat → Prop} {w w' : World} {g q words : Nat} {s : GS} (h : GIn F w g q words s) (hb : Below w.heap.size w w') : GIn F w' g q words s := by
  obtain ⟨U, h1, h2, h3, h4⟩ := h
  exact ⟨U, h1.below hb, h2, fun b hU => Nat.lt_of_lt_of_le (h3 b hU) hb.size, fun b hF => Nat.lt_of_lt_of_le (h4 b hF) hb.size⟩
theorem GIn.drew {F : Nat → Prop} {w : World} {g q words : Nat} {s : GS} (h : GIn F w g q words s) : GIn F w.drew g q words s := h.below (Below.refl _ w).drew
/-- More blocks stand: those that came after. -/
theorem GIn.more {F G : Nat → Prop} {w w' : World} {g q words : Nat} {s : GS} (h : GIn F w g q words s) (hb : Below w.heap.size w w') (hG : ∀ b, G b → F b ∨ (w.heap.size ≤ b ∧ b < w'.heap.size)) : GIn G w' g q words s := by
  obtain ⟨U, h1, h2, h3, h4⟩ := h
  refine ⟨U, h1.below hb, fun b hU hg => ?_, fun b hU => Nat.lt_of_lt_of_le (h3 b hU) hb.size, fun b hg => ?_⟩
  · rcases hG b hg with hF | ⟨hz, _⟩
    · exact h2 b hU hF
    · have := h3 b hU; omega
  · rcases hG b hg with hF | ⟨_, hz⟩
    · exact Nat.lt_of_lt_of_le (h4 b hF) hb.size
    · exact hz
theorem GIn.less {F G : Nat → Prop} {w : World} {g q words : Nat} {s : GS} (h : GIn F w g q words s) (hG : ∀ b, G b → F b) : GIn G w g q words s := by
  obtain ⟨U, h1, h2, h3, h4⟩ := h
  exact ⟨U, h1, fun b hU hg => h2 b hU (hG b hg), h3, fun b hg => h4 b (hG b hg)⟩
theorem GIn.inv {F : Nat → Prop} {w : World} {g q words : Nat} {s : GS} (h : GIn F w g q words s) : GInv words s := by
  obtain ⟨U, h1, _⟩ := h
  exact h1.inv
theorem GIn.few {F : Nat → Prop} {w : World} {g q words : Nat} {s : GS} (h : GIn F w g q words s) : words ≤ 65536 := by
  obtain ⟨U, h1, _⟩ := h
  exact h1.few
theorem GIn.heap {F : Nat → Prop} {w : World} {g q words : Nat} {s : GS} (h : GIn F w g q words s) : ∃ S, HAt w q S words s.L := by
  obtain ⟨U, h1, _⟩ := h
  exact ⟨U, h1.heap⟩
def VTwo (F : Nat → Prop) (g q words : Nat) (a e : Int) (s : GS) (w : World) (x : Ending) (w' : World) : Prop := x = .returned (.tuple #[.int .i64 a, .int .i64 e]) ∧ GGo F g q words s w w'
def VOne (F : Nat → Prop) (g q words : Nat) (v : Value) (s : GS) (w : World) (x : Ending) (w' : World) : Prop := x = .returned v ∧ GGo F g q words s w w'
def VFin (F : Nat → Prop) (g q words : Nat) (s : GS) (w : World) (x : Ending) (w' : World) : Prop := ∃ K : Nat, x = .returned (.int .i64 (K : Int)) ∧ EndsAt s K ∧ GGo F g q words (s.run K) w w'
section
variable (F : Nat → Prop) (g q words : Nat) (s : GS) (w : World) (h : GIn F w g q words s)
include h
theorem v_Alloc (k n : Int) : Calls Tryz.prog 32 #[.pointer (some ⟨g, 0, none⟩), .int .i64 k, .int .i64 n] w (VTwo F g q words (s.alloc words k n).1 (s.alloc words k n).2.1 (s.alloc words k n).2.2 w) := by
  obtain ⟨U, h1, h2, h3, h4⟩ := h
  exact (galloc_any g q words U s w h1 k n).mono fun e w' ⟨he, hs⟩ => ⟨he, go_of h2 h4 hs⟩
theorem v_Write (a i : Int) (x : Nat) (hx : x < 18446744073709551616) : Calls Tryz.prog 39 #[.pointer (some ⟨g, 0, none⟩), .int .i64 a, .int .i64 i, .int .u64 (x : Int)] w (VOne F g q words (.int .i64 (s.write a i x).1) (s.write a i x).2 w) := by
  obtain ⟨U, h1, h2, h3, h4⟩ := h
  exact (gwrite_any g q words U s w h1 a i x hx).mono fun e w' ⟨he, hs⟩ => ⟨he, go_of h2 h4 hs⟩
theorem v_Begin (A : Option Addr) (n c : Nat) (xs : List Nat) (hx : WordsAt w F A n xs) (hn : n ≤ 9223372036854775807) : Calls Tryz.prog 34 #[.pointer (some ⟨g, 0, none⟩), .slice A n c] w (VOne F g q words (.int .i64 (s.begin xs).1) (s.begin xs).2 w) := by
  obtain ⟨U, h1, h2, h3, h4⟩ := h
  exact (begin_any g q words U F s w h1 A n c xs hx (fun b hF hU => h2 b hU hF) hn).mono fun e w' ⟨he, hs⟩ => ⟨he, go_of h2 h4 hs⟩
theorem v_Step (hT : Tab w) : Calls Tryz.prog 76 #[.pointer (some ⟨g, 0, none⟩)] w (VOne F g q words (.bool s.step.1) s.step.2 w) := by
  obtain ⟨U, h1, h2, h3, h4⟩ := h
  exact (step_any g q words U s w h1 hT).mono fun e w' ⟨he, hs⟩ => ⟨he, go_of h2 h4 hs⟩
theorem v_Finish (hT : Tab w) (hF : F 0) : Calls Tryz.prog 66 #[.pointer (some ⟨g, 0, none⟩)] w (VFin F g q words s w) := by
  obtain ⟨U, h1, h2, h3, h4⟩ := h
  exact (finish_any g q words U s w h1 hT (fun hU => h2 _ hU hF)).mono fun e w' ⟨K, he, hk, hs⟩ => ⟨K, he, hk, go_of h2 h4 hs⟩
theorem v_White (a : Int) : Calls Tryz.prog 89 #[.pointer (some ⟨g, 0, none⟩), .int .i64 a] w (BoolSame (decide (0 ≤ a ∧ s.White a.toNat)) w) := by
  obtain ⟨U, h1, _⟩ := h
  exact white_any g q words U s w h1 a
theorem v_Phase : Calls Tryz.prog 45 #[.pointer (some ⟨g, 0, none⟩)] w (OneSame (s.ph : Nat) w) := by
  obtain ⟨U, h1, _⟩ := h
  exact phase_any g q words U s w h1
theorem v_Next (a : Int) (hT : Tab w) (ha : a ≤ 9223372036854775807) : Calls Tryz.prog 101 #[.pointer (some ⟨q, 0, none⟩), .int .i64 a] w (OneSame (nextOb s.L a.toNat : Nat) w) := by
  obtain ⟨S, h1⟩ := h.heap
  exact g_Next q S words s.L w h1 a hT ha
theorem v_Kind (a : Int) : Calls Tryz.prog 60 #[.pointer (some ⟨q, 0, none⟩), .int .i64 a] w (TwoSame (.int .i64 ((hKind s.L a).1 : Nat)) (hKind s.L a).2 w) := by
  obtain ⟨S, h1⟩ := h.heap
  exact g_Kind q S words s.L w h1 a
theorem v_Size (a : Int) : Calls Tryz.prog 61 #[.pointer (some ⟨q, 0, none⟩), .int .i64 a] w (TwoSame (.int .i64 ((hSize s.L a).1 : Nat)) (hSize s.L a).2 w) := by
  obtain ⟨S, h1⟩ := h.heap
  exact g_Size q S words s.L w h1 a
theorem v_Get (a i : Int) : Calls Tryz.prog 43 #[.pointer (some ⟨q, 0, none⟩), .int .i64 a, .int .i64 i] w (TwoSame (.int .u64 ((hGet s.L a i).1 : Nat)) (hGet s.L a i).2 w) := by
  obtain ⟨S, h1⟩ := h.heap
  exact g_Get q S words s.L w h1 a i
end
def VNew (F : Nat → Prop) (q words : Nat) (L : List Ob) (w : World) (x : Ending) (w' : World) : Prop := ∃ g, x = .returned (.pointer (some ⟨g, 0, none⟩)) ∧ GIn F w' g q words ⟨L, 0, [], [], 0⟩ ∧ Below w.heap.size w w'
theorem v_New (F : Nat → Prop) (q words : Nat) (S : Nat → Prop) (L : List Ob) (w : World) (h : HAt w q S words L) (hw : words ≤ 65536) (hS : ∀ b, S b → ¬ F b) (hF : ∀ b, F b → b < w.heap.size) :
    Calls Tryz.prog 29 #[.pointer (some ⟨q, 0, none⟩)] w (VNew F q words L w) := by
  refine (gnew_any q words S L w h hw).mono ?_
  rintro e w' ⟨g, he, h1, hb⟩
  refine ⟨g, he, ⟨_, h1.bound, ?_, fun b hU => hU.2, fun b hf => Nat.lt_of_lt_of_le (hF b hf) hb.size⟩, hb⟩
  rintro b ⟨hU | hz, _⟩ hf
  · exact hS b hU hf
  · have := hF b hf; omega
theorem ref_any (a : Nat) (ha : a ≤ 2147483647) (w : World) : Calls Tryz.prog 24 #[.int .i64 (a : Int)] w fun e w' => e = .returned (.int .u64 ((2 * a : Nat) : Int)) ∧ w = w' := by
  have g1 : decide ((a : Int) < 0) = false := by rw [decide_eq_false_iff_not]; omega
  have g2 : decide (2147483647 < (a : Int)) = false := by rw [decide_eq_false_iff_not]; omega
  have g3 : decide (2147483647 < a) = false := by rw [decide_eq_false_iff_not]; omega
  have E1 : IntKind.u64.wrap (a : Int) = (a : Int) := by rw [IntKind.wrap_u64]; omega
  have E2 : IntKind.u64.wrap ((a : Int) * 2) = ((2 * a : Nat) : Int) := by rw [IntKind.wrap_u64]; omega
  go_enter Tryz.func24, Tryz.ntmps24
  go_wp2_with fail
  go_ret
  exact ⟨rfl, rfl⟩
end Go.Proofs.YtdkbgdjkdalalaaGreatDoor
