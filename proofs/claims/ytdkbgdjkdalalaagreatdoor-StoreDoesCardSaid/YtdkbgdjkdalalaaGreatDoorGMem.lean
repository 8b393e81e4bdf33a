/-
  The collector in memory: its head, its colours, its queue, its heap; the walks of its calls that only look.
-/
import Derived.Test.YtdkbgdjkdalalaaGreatDoorGQueue
import Derived.Test.YtdkbgdjkdalalaaGreatDoorGAbs
namespace Go.Proofs.YtdkbgdjkdalalaaGreatDoor
open Go.RowKit
/-- How the program tells an object's colour. -/
def colorOf (s : GS) (a : Nat) : Nat := if a ∈ s.G then 1 else if a ∈ s.B then 2 else 0
theorem color_white {s : GS} {a : Nat} : colorOf s a = 0 ↔ a ∉ s.G ∧ a ∉ s.B := by
  unfold colorOf; split
  · simp [*]
  · split <;> simp [*]
/-- The collector at g, which keeps the heap at q; what lies in S is the heap's; at X a colour may be another. -/
structure GMem (w : World) (g q : Nat) (U : Nat → Prop) (words : Nat) (s : GS) (X : Nat → Prop) (S : Nat → Prop) (c : Nat) (cs Q : List Nat) : Prop where
  heap : HAt w q S words s.L
  queue : QAt w g (fun b => U b ∧ ¬ S b ∧ b ≠ c) (.pointer (some ⟨q, 0, none⟩)) (.int .i64 (s.ph : Nat)) (.slice (some ⟨c, 0, none⟩) words words) (.int .i64 (s.pos : Nat)) Q
  cols : Nums w .u8 106 c words cs
  clen : cs.length = words
  small : words ≤ 65536
  col : ∀ a, IsIn s.L a → ¬ X a → cs.getD a 0 = colorOf s a
  ordered : HeapQ Q
  same : Q.Perm s.G
  inv : GInv words s
  inU : ∀ b, S b → U b
  gU : U g
  cU : U c
  gS : ¬ S g
  cS : ¬ S c
  sb : ∀ b, S b → b < w.heap.size
def GAt (w : World) (g q : Nat) (U : Nat → Prop) (words : Nat) (s : GS) : Prop := ∃ S c cs Q, GMem w g q U words s (fun _ => False) S c cs Q
theorem QAt.keep {w w' : World} {g : Nat} {R : Nat → Prop} {A0 A1 A2 A4 : Value} {Q : List Nat} (h : QAt w g R A0 A1 A2 A4 Q) (hg : w'.heap[g]? = w.heap[g]?) (hk : ∀ b, b < w.heap.size → R b → (∃ cur, w.heap[b]? = some (.cells cur 3 (0, 0))) → w'.heap[b]? = w.heap[b]?) : QAt w' g R A0 A1 A2 A4 Q := by
  obtain ⟨v, h1, h2, h3⟩ := h
  exact ⟨v, hg.trans h1, own_keep h2 fun b hb => hk b (World.ownsRow.lt h2 b hb).2 (h3 b hb) (own_type h2 b hb), h3⟩
theorem QAt.mono {w : World} {g : Nat} {R T : Nat → Prop} {A0 A1 A2 A4 : Value} {Q : List Nat} (h : QAt w g R A0 A1 A2 A4 Q) (hT : ∀ b, b < w.heap.size → R b → T b) : QAt w g T A0 A1 A2 A4 Q := by
  obtain ⟨v, h1, h2, h3⟩ := h
  exact ⟨v, h1, h2, fun b hb => hT b (World.ownsRow.lt h2 b hb).2 (h3 b hb)⟩
theorem QAt.lt {w : World} {g : Nat} {R : Nat → Prop} {A0 A1 A2 A4 : Value} {Q : List Nat} (h : QAt w g R A0 A1 A2 A4 Q) : g < w.heap.size := by
  obtain ⟨v, h1, _⟩ := h
  exact lt_of_heap h1
theorem QAt.head {w : World} {g : Nat} {R : Nat → Prop} {A0 A1 A2 A4 : Value} {Q : List Nat} (h : QAt w g R A0 A1 A2 A4 Q) :
    w.cell? ⟨g, 0, none⟩ = some A0 ∧ w.cell? ⟨g, 1, none⟩ = some A1 ∧ w.cell? ⟨g, 2, none⟩ = some A2 ∧ w.cell? ⟨g, 4, none⟩ = some A4 ∧ ∀ i, w.frozen? ⟨g, i, none⟩ = false := by
  obtain ⟨v, h1, _⟩ := h
  exact ⟨by rw [Lib.cell_of_heap h1]; rfl, by rw [Lib.cell_of_heap h1]; rfl, by rw [Lib.cell_of_heap h1]; rfl, by rw [Lib.cell_of_heap h1]; rfl, Lib.frozen_of_heap h1⟩
theorem QAt.tail {w : World} {g : Nat} {R : Nat → Prop} {A0 A1 A2 A4 : Value} {Q : List Nat} (h : QAt w g R A0 A1 A2 A4 Q) : ∃ A c, w.cell? ⟨g, 3, none⟩ = some (.slice A Q.length c) := by
  obtain ⟨v, h1, h2, _⟩ := h
  have h3 : w.cell? ⟨g, 3, none⟩ = some v := by rw [Lib.cell_of_heap h1]; rfl
  rcases h2.2 with ⟨rfl, he⟩ | ⟨f, c, _, he, _⟩
  · exact ⟨none, 0, by rw [h3, he]⟩
  · exact ⟨_, c, by rw [h3, he]⟩
theorem QAt.block {w : World} {g : Nat} {R : Nat → Prop} {A0 A1 A2 A4 : Value} {Q : List Nat} (h : QAt w g R A0 A1 A2 A4 Q) : ∃ cur, w.heap[g]? = some (.cells cur 105 (0, 0)) := by
  obtain ⟨v, h1, _⟩ := h
  exact ⟨_, h1⟩
theorem GMem.keep {w w' : World} {g q words : Nat} {U : Nat → Prop} {s : GS} {X S : Nat → Prop} {c : Nat} {cs Q : List Nat} (h : GMem w g q U words s X S c cs Q) (hz : w.heap.size ≤ w'.heap.size) (hk : ∀ b, b < w.heap.size → U b → w'.heap[b]? = w.heap[b]?) : GMem w' g q U words s X S c cs Q :=
  ⟨h.heap.keep fun b hl hS => hk b hl (h.inU b hS), h.queue.keep (hk g h.queue.lt h.gU) fun b hl hR _ => hk b hl hR.1, h.cols.keep (hk c h.cols.lt h.cU), h.clen, h.small, h.col, h.ordered, h.same, h.inv, h.inU, h.gU, h.cU, h.gS, h.cS, fun b hS => Nat.lt_of_lt_of_le (h.sb b hS) hz⟩
theorem GAt.keep {w w' : World} {g q words : Nat} {U : Nat → Prop} {s : GS} (h : GAt w g q U words s) (hz : w.heap.size ≤ w'.heap.size) (hk : ∀ b, b < w.heap.size → U b → w'.heap[b]? = w.heap[b]?) : GAt w' g q U words s := by
  obtain ⟨S, c, cs, Q, h⟩ := h
  exact ⟨S, c, cs, Q, h.keep hz hk⟩
theorem GAt.below {w w' : World} {g q words : Nat} {U : Nat → Prop} {s : GS} (h : GAt w g q U words s) (hb : Below w.heap.size w w') : GAt w' g q U words s := h.keep hb.size fun b hl _ => hb.block b hl
theorem GMem.mono {w : World} {g q words : Nat} {U T : Nat → Prop} {s : GS} {X S : Nat → Prop} {c : Nat} {cs Q : List Nat} (h : GMem w g q U words s X S c cs Q) (hT : ∀ b, U b → T b) : GMem w g q T words s X S c cs Q :=
  ⟨h.heap, h.queue.mono fun b _ hR => ⟨hT b hR.1, hR.2⟩, h.cols, h.clen, h.small, h.col, h.ordered, h.same, h.inv, fun b hS => hT b (h.inU b hS), hT g h.gU, hT c h.cU, h.gS, h.cS, h.sb⟩
theorem GAt.mono {w : World} {g q words : Nat} {U T : Nat → Prop} {s : GS} (h : GAt w g q U words s) (hT : ∀ b, U b → T b) : GAt w g q T words s := by
  obtain ⟨S, c, cs, Q, h⟩ := h
  exact ⟨S, c, cs, Q, h.mono hT⟩
theorem GAt.inv {w : World} {g q words : Nat} {U : Nat → Prop} {s : GS} (h : GAt w g q U words s) : GInv words s := by
  obtain ⟨S, c, cs, Q, h⟩ := h
  exact h.inv
theorem GAt.heap {w : World} {g q words : Nat} {U : Nat → Prop} {s : GS} (h : GAt w g q U words s) : HAt w q U words s.L := by
  obtain ⟨S, c, cs, Q, h⟩ := h
  exact h.heap.mono h.inU
theorem GAt.few {w : World} {g q words : Nat} {U : Nat → Prop} {s : GS} (h : GAt w g q U words s) : words ≤ 65536 := by
  obtain ⟨S, c, cs, Q, h⟩ := h
  exact h.small
def GStep (g q : Nat) (U : Nat → Prop) (words : Nat) (s : GS) (w w' : World) : Prop := GAt w' g q (fun b => U b ∨ w.heap.size ≤ b) words s ∧ Turned U w w'
theorem GStep.of_below {w w' : World} {g q words : Nat} {U : Nat → Prop} {s : GS} (h : GAt w g q U words s) (hb : Below w.heap.size w w') : GStep g q U words s w w' := ⟨(h.below hb).mono fun _ hU => .inl hU, Turned.of_below hb⟩
theorem GStep.stay {w : World} {g q words : Nat} {U : Nat → Prop} {s : GS} (h : GAt w g q U words s) : GStep g q U words s w w := .of_below h (Below.refl _ _)
theorem GStep.then {w w1 w2 : World} {g q words : Nat} {U : Nat → Prop} {s t : GS} (h : GStep g q U words s w w1) (k : GStep g q (fun b => U b ∨ w.heap.size ≤ b) words t w1 w2) : GStep g q U words t w w2 := by
  refine ⟨k.1.mono ?_, h.2.then k.2 ?_⟩
  · rintro b ((hU | hb) | hb)
    · exact .inl hU
    · exact .inr hb
    · exact .inr (Nat.le_trans h.2.size hb)
  · exact fun i hi => hi
/-! The calls that look. -/
def isB (L : List Ob) (cs : List Nat) (a : Int) (col : Nat) : Bool := decide (0 ≤ a ∧ IsIn L a.toNat ∧ cs.getD a.toNat 0 = col)
theorem is_low (g q c words : Nat) (S : Nat → Prop) (L : List Ob) (cs : List Nat) (w : World) (a : Int) (col : Nat) (hh : HAt w q S words L) (h0 : w.cell? ⟨g, 0, none⟩ = some (.pointer (some ⟨q, 0, none⟩)))
    (h2 : w.cell? ⟨g, 2, none⟩ = some (.slice (some ⟨c, 0, none⟩) words words)) (hc : Nums w .u8 106 c words cs) (hl : cs.length = words) (_hw : words ≤ 65536) :
    Calls Tryz.prog 98 #[.pointer (some ⟨g, 0, none⟩), .int .i64 a, .int .u8 (col : Nat)] w (BoolSame (isB L cs a col) w) := by
  have hk := g_Kind q S words L w hh a
  by_cases hin : 0 ≤ a ∧ IsIn L a.toNat
  · obtain ⟨n, rfl⟩ := Int.eq_ofNat_of_zero_le hin.1
    have hn := hin.2
    rw [Int.toNat_natCast] at hn
    have hr := isIn_range hh.lies hn
    obtain ⟨o, ho⟩ := isIn_some hn
    rw [hKind_at ho] at hk
    have HK := Lib.hid hk
    have kc := hc.cell n (by omega)
    have g1 : (n : Int) < (words : Int) := by omega
    have HV : Hid (isB L cs n col = decide (cs.getD n 0 = col)) := Lib.hid (by unfold isB; rw [Int.toNat_natCast]; simp [hn])
    generalize cs.getD n 0 = y at *
    clear hk ho hin hh hc hl
    by_cases he : y = col
    · have B1 : ((y : Int) == (col : Int)) = true := by rw [he]; simp
      have HB : Hid (isB L cs n col = true) := Lib.hid (by rw [HV.out]; simp [he])
      clear he HV
      go_enter Tryz.func98, Tryz.ntmps98
      go_wp2_with fail
      refine HK.out.mono ?_
      rintro e w' ⟨rfl, rfl⟩
      go_wp2_with fail
      go_ret
      exact ⟨ret_bool (by rw [HB.out]), rfl⟩
    · have B1 : ((y : Int) == (col : Int)) = false := by rw [beq_eq_false_iff_ne]; omega
      have HB : Hid (isB L cs n col = false) := Lib.hid (by rw [HV.out]; simp [he])
      clear he HV
      go_enter Tryz.func98, Tryz.ntmps98
      go_wp2_with fail
      refine HK.out.mono ?_
      rintro e w' ⟨rfl, rfl⟩
      go_wp2_with fail
      go_ret
      exact ⟨ret_bool (by rw [HB.out]), rfl⟩
  · have hno : a < 0 ∨ findOb L a.toNat = none := by
      by_cases h1 : a < 0
      · exact .inl h1
      · exact .inr (not_isIn.1 fun hx => hin ⟨by omega, hx⟩)
    rw [hKind_no hno] at hk
    have HK := Lib.hid hk
    have HB : Hid (isB L cs a col = false) := Lib.hid (by unfold isB; rw [decide_eq_false_iff_not]; exact fun hx => hin ⟨hx.1, hx.2.1⟩)
    clear hk hin hno hh hc hl
    go_enter Tryz.func98, Tryz.ntmps98
    go_wp2_with fail
    refine HK.out.mono ?_
    rintro e w' ⟨rfl, rfl⟩
    go_wp2_with fail
    go_ret
    exact ⟨ret_bool (by rw [HB.out]), rfl⟩
theorem isB_white {L : List Ob} {s : GS} {cs : List Nat} (hL : s.L = L) (hcol : ∀ a, IsIn s.L a → cs.getD a 0 = colorOf s a) (a : Int) : isB L cs a 0 = decide (0 ≤ a ∧ s.White a.toNat) := by
  subst hL
  unfold isB GS.White
  by_cases h : 0 ≤ a ∧ IsIn s.L a.toNat
  · rw [hcol _ h.2]
    have := color_white (s := s) (a := a.toNat)
    simp only [h, true_and]
    rw [decide_eq_decide]
    exact this
  · rw [decide_eq_false fun hx => h ⟨hx.1, hx.2.1⟩, decide_eq_false fun hx => h ⟨hx.1, hx.2.1⟩]
theorem not_false_X : ∀ a : Nat, ¬ (fun _ : Nat => False) a := fun _ h => h
theorem white_any (g q words : Nat) (U : Nat → Prop) (s : GS) (w : World) (h : GAt w g q U words s) (a : Int) :
    Calls Tryz.prog 89 #[.pointer (some ⟨g, 0, none⟩), .int .i64 a] w (BoolSame (decide (0 ≤ a ∧ s.White a.toNat)) w) := by
  obtain ⟨S, c, cs, Q, h⟩ := h
  obtain ⟨k0, _, k2, _⟩ := h.queue.head
  have hi := is_low g q c words S s.L cs w a 0 h.heap k0 k2 h.cols h.clen h.small
  rw [isB_white (L := s.L) rfl (fun a ha => h.col a ha (not_false_X a)) a] at hi
  have HI := Lib.hid hi
  clear h hi k0 k2
  generalize decide (0 ≤ a ∧ s.White a.toNat) = y at *
  go_enter Tryz.func89, Tryz.ntmps89
  go_wp2_with fail
  refine HI.out.mono ?_
  rintro e w' ⟨rfl, rfl⟩
  go_wp2_with fail
  go_ret
  exact ⟨rfl, rfl⟩
theorem leads_low (g q words : Nat) (S : Nat → Prop) (L : List Ob) (w : World) (a : Int) (hh : HAt w q S words L) (h0 : w.cell? ⟨g, 0, none⟩ = some (.pointer (some ⟨q, 0, none⟩))) :
    Calls Tryz.prog 70 #[.pointer (some ⟨g, 0, none⟩), .int .i64 a] w (BoolSame (decide ((hKind L a).1 ≠ 1)) w) := by
  have HK := Lib.hid (g_Kind q S words L w hh a)
  clear hh
  generalize hKind L a = r at *
  obtain ⟨k, e⟩ := r
  simp only at *
  by_cases hk : k = 1
  · subst hk
    go_enter Tryz.func70, Tryz.ntmps70
    go_wp2_with fail
    refine HK.out.mono ?_
    rintro e w' ⟨rfl, rfl⟩
    go_wp2_with fail
    go_ret
    exact ⟨rfl, rfl⟩
  · have B1 : ((k : Int) != 1) = true := by rw [bne_iff_ne]; omega
    have HV : Hid (decide (k ≠ 1) = true) := Lib.hid (by simp [hk])
    clear hk
    go_enter Tryz.func70, Tryz.ntmps70
    go_wp2_with fail
    refine HK.out.mono ?_
    rintro e w' ⟨rfl, rfl⟩
    go_wp2_with fail
    go_ret
    exact ⟨ret_bool (by rw [HV.out]), rfl⟩
theorem phase_any (g q words : Nat) (U : Nat → Prop) (s : GS) (w : World) (h : GAt w g q U words s) :
    Calls Tryz.prog 45 #[.pointer (some ⟨g, 0, none⟩)] w (OneSame (s.ph : Nat) w) := by
  obtain ⟨S, c, cs, Q, h⟩ := h
  obtain ⟨_, k1, _⟩ := h.queue.head
  clear h
  generalize s.ph = p at *
  go_enter Tryz.func45, Tryz.ntmps45
  go_wp2_with fail
  go_ret
  exact ⟨rfl, rfl⟩
theorem isNum_any (x : Nat) (hx : x < 18446744073709551616) (w : World) : Calls Tryz.prog 58 #[.int .u64 (x : Int)] w (BoolSame (decide (x % 2 = 1)) w) := by
  have h1 := and_one_bit x 0 hx
  rw [Nat.testBit_eq_decide_div_mod_eq] at h1
  simp only [Int.pow_zero, Int.ediv_one, Nat.pow_zero, Nat.div_one] at h1
  have H := Lib.hid h1
  clear h1
  go_enter Tryz.func58, Tryz.ntmps58
  go_wp2_with fail
  go_ret
  exact ⟨ret_bool H.out, rfl⟩
theorem addr_any (x : Nat) (hx : x < 18446744073709551616) (w : World) : Calls Tryz.prog 40 #[.int .u64 (x : Int)] w (OneSame (addrW x : Nat) w) := by
  by_cases h1 : x % 2 = 1
  · have HI := Lib.hid (isNum_any x hx w)
    rw [show decide (x % 2 = 1) = true by simp [h1]] at HI
    have HV : Hid (addrW x = 0) := Lib.hid (by unfold addrW; rw [if_pos (.inl h1)])
    clear h1
    go_enter Tryz.func40, Tryz.ntmps40
    go_wp2_with fail
    refine HI.out.mono ?_
    rintro e w' ⟨rfl, rfl⟩
    go_wp2_with fail
    go_ret
    exact ⟨ret_int (by rw [HV.out]; rfl), rfl⟩
  · have HI := Lib.hid (isNum_any x hx w)
    rw [show decide (x % 2 = 1) = false by simp [h1]] at HI
    by_cases h2 : 2147483647 < x / 2
    · have HV : Hid (addrW x = 0) := Lib.hid (by unfold addrW; rw [if_pos (.inr h2)])
      have B1 : decide (2147483647 < (x : Int) / 2) = true := by rw [decide_eq_true_iff]; omega
      clear h1 h2
      go_enter Tryz.func40, Tryz.ntmps40
      go_wp2_with fail
      refine HI.out.mono ?_
      rintro e w' ⟨rfl, rfl⟩
      go_wp2_with fail
      go_ret
      exact ⟨ret_int (by rw [HV.out]; rfl), rfl⟩
    · have HV : Hid (((addrW x : Nat) : Int) = (x : Int) / 2) := Lib.hid (by unfold addrW; rw [if_neg (by omega)]; omega)
      have B1 : decide (2147483647 < (x : Int) / 2) = false := by rw [decide_eq_false_iff_not]; omega
      have E1 : IntKind.i64.wrap ((x : Int) / 2) = (x : Int) / 2 := by rw [IntKind.wrap_i64]; omega
      clear h1 h2
      go_enter Tryz.func40, Tryz.ntmps40
      go_wp2_with fail
      refine HI.out.mono ?_
      rintro e w' ⟨rfl, rfl⟩
      go_wp2_with fail
      go_ret
      exact ⟨ret_int (by rw [HV.out]), rfl⟩
end Go.Proofs.YtdkbgdjkdalalaaGreatDoor
