/-
  The store: a heap and its collector, and how many cycles have ended: how it lies in memory, what its calls do, in the terms of the collector's.
  The store's calls: New, Alloc, Get, Set, Kind, Size, Pick, Cycles, Room.
  The store's Alloc.
  The store's New.
  The store's texts: how many fields a text takes; eight bytes as a word, and a word's eight bytes.
  Plain facts on integers: bringing a number into 63 bits, a number's word, and back. Imports nothing of the program.
  Numbers as words: word's Of, Num, IsNum, as the store calls them.
  The store's String: what it is in the terms of the objects.
  The store's Text.
  The walk of the laws' own first look at the store.
  The walk of the laws' own first look at the store.
  A cycle with nothing else going on: what is left is what was reached, and the room is what that leaves. Objects laid one behind the other are never refused while there is room. Plain mathematics, for the law StoreCycles.
  The store's laws' registers and scripts: eight words in a block of their own beside a store; a script's step in memory.
  A store, the registers' block, and the document's own heap with the same objects, side by side; what a call on either leaves of all.
  A store, eight registers, and anything else side by side; what a call on either leaves of all.
-/
import Derived.Test.YtdkbgdjkdalalaaGreatDoorGLaw
import Derived.Test.YtdkbgdjkdalalaaGreatDoorZGAll
import Derived.Deep.RegionHeld3
import Derived.WalkKit
import Derived.WalkSmall
import Derived.Laws.BytesArg
import Derived.Lib.Strings
namespace Go.Proofs.YtdkbgdjkdalalaaGreatDoor
open Go.RowKit
structure SS where
  s : GS
  cy : Nat
/-- The cycle goes on to its end. -/
noncomputable def GS.done (s : GS) : GS := by
  classical
  exact if h : ∃ K, EndsAt s K then s.run h.choose else s
theorem done_is {s : GS} {K : Nat} (h : EndsAt s K) : s.done = s.run K := by
  have he : ∃ K, EndsAt s K := ⟨K, h⟩
  unfold GS.done
  rw [dif_pos he, ends_unique he.choose_spec h]
theorem ends_zero {s : GS} {K : Nat} (h : EndsAt s K) : K = 0 ↔ s.ph = 0 := by
  constructor
  · rintro rfl
    exact h.1
  · intro h0
    cases K with
    | zero => rfl
    | succ K => exact absurd h0 (h.2 0 (by omega))
noncomputable def SS.finish (x : SS) : SS := ⟨x.s.done, if x.s.ph = 0 then x.cy else x.cy + 1⟩
def SS.step (x : SS) : Bool × SS := (x.s.step.1, ⟨x.s.step.2, if x.s.step.1 = true then x.cy + 1 else x.cy⟩)
def SS.pick (x : SS) (roots : List Nat) : SS := if x.s.ph = 0 then ⟨(x.s.begin roots).2, x.cy⟩ else x.step.2
def SS.put (x : SS) (r : Int × Int × GS) : Nat × Int × SS := if r.2.1 = 0 then (2 * r.1.toNat, 0, ⟨r.2.2, x.cy⟩) else (0, r.2.1, ⟨r.2.2, x.cy⟩)
/-- The second try's store, ahead of it; the third one's. -/
noncomputable def SS.second (m : Nat) (x : SS) (kd n : Int) : SS := SS.finish ⟨(x.s.alloc m kd n).2.2, x.cy⟩
noncomputable def SS.third (m : Nat) (y : SS) (kd n : Int) (roots : List Nat) : SS := SS.finish ⟨((y.s.alloc m kd n).2.2.begin roots).2, y.cy⟩
noncomputable def SS.alloc (m : Nat) (x : SS) (kd n : Int) (roots : List Nat) : Nat × Int × SS :=
  if (x.s.alloc m kd n).2.1 = 6 then
    if ((x.second m kd n).s.alloc m kd n).2.1 = 6 then ((x.second m kd n).third m kd n roots).put (((x.second m kd n).third m kd n roots).s.alloc m kd n)
    else (x.second m kd n).put ((x.second m kd n).s.alloc m kd n)
  else x.put (x.s.alloc m kd n)
/-- At p a store lies, its collector at g over the heap at q, apart from the blocks F, which stand. -/
def SIn (F : Nat → Prop) (w : World) (p g q m : Nat) (x : SS) : Prop :=
  GIn (fun b => F b ∨ b = p) w g q m x.s ∧ w.heap[p]? = some (.cells #[.pointer (some ⟨g, 0, none⟩), .int .i64 (x.cy : Int), .pointer (some ⟨q, 0, none⟩)] 70 (0, 0)) ∧ ¬ F p
def SGo (F : Nat → Prop) (p g q m : Nat) (x : SS) (w w' : World) : Prop := SIn F w' p g q m x ∧ Stands F w w'
theorem SGo.then {F : Nat → Prop} {p g q m : Nat} {x y : SS} {a b c : World} (h : SGo F p g q m x a b) (k : SGo F p g q m y b c) : SGo F p g q m y a c := ⟨k.1, h.2.trans k.2⟩
theorem SIn.below {F : Nat → Prop} {w w' : World} {p g q m : Nat} {x : SS} (h : SIn F w p g q m x) (hb : Below w.heap.size w w') : SIn F w' p g q m x := ⟨h.1.below hb, (hb.block p (lt_of_heap h.2.1)).trans h.2.1, h.2.2⟩
theorem SIn.more {F G : Nat → Prop} {w w' : World} {p g q m : Nat} {x : SS} (h : SIn F w p g q m x) (hb : Below w.heap.size w w') (hG : ∀ b, G b → F b ∨ (w.heap.size ≤ b ∧ b < w'.heap.size)) : SIn G w' p g q m x := by
  refine ⟨h.1.more hb (fun b hb' => ?_), (hb.block p (lt_of_heap h.2.1)).trans h.2.1, fun hx => ?_⟩
  · rcases hb' with hg | rfl
    · exact (hG b hg).imp .inl id
    · exact .inl (.inr rfl)
  · rcases hG p hx with hF | ⟨hz, _⟩
    · exact h.2.2 hF
    · have := lt_of_heap h.2.1; omega
theorem SIn.less {F G : Nat → Prop} {w : World} {p g q m : Nat} {x : SS} (h : SIn F w p g q m x) (hG : ∀ b, G b → F b) : SIn G w p g q m x := ⟨h.1.less fun _ hb => hb.imp (hG _) id, h.2.1, fun hx => h.2.2 (hG _ hx)⟩
theorem SIn.head {F : Nat → Prop} {w : World} {p g q m : Nat} {x : SS} (h : SIn F w p g q m x) : w.cell? ⟨p, 0, none⟩ = some (.pointer (some ⟨g, 0, none⟩)) ∧ w.cell? ⟨p, 1, none⟩ = some (.int .i64 (x.cy : Int)) ∧ w.cell? ⟨p, 2, none⟩ = some (.pointer (some ⟨q, 0, none⟩)) ∧ (∀ i, w.frozen? ⟨p, i, none⟩ = false) ∧ p < w.heap.size :=
  ⟨by rw [Lib.cell_of_heap h.2.1]; rfl, by rw [Lib.cell_of_heap h.2.1]; rfl, by rw [Lib.cell_of_heap h.2.1]; rfl, Lib.frozen_of_heap h.2.1, lt_of_heap h.2.1⟩
/-- The collector has gone on. -/
theorem SIn.go {F : Nat → Prop} {w w' : World} {p g q m : Nat} {x : SS} {t : GS} (h : SIn F w p g q m x) (hs : GGo (fun b => F b ∨ b = p) g q m t w w') : SGo F p g q m ⟨t, x.cy⟩ w w' :=
  ⟨⟨hs.1, (hs.2.block p (lt_of_heap h.2.1) fun hn => hn (.inr rfl)).trans h.2.1, h.2.2⟩, hs.2.mono fun _ hn hF => hn (.inl hF)⟩
/-- The count is set. -/
theorem SIn.count {F : Nat → Prop} {w : World} {p g q m : Nat} {x : SS} (h : SIn F w p g q m x) (c : Nat) : SGo F p g q m ⟨x.s, c⟩ w (w.setCell ⟨p, 1, none⟩ (.int .i64 (c : Int))) := by
  obtain ⟨⟨U, h1, h2, h3, h4⟩, h5, h6⟩ := h
  have hz : (w.setCell ⟨p, 1, none⟩ (.int .i64 (c : Int))).heap.size = w.heap.size := by simp [World.setCell]
  have ho : ∀ b, b ≠ p → (w.setCell ⟨p, 1, none⟩ (.int .i64 (c : Int))).heap[b]? = w.heap[b]? := fun b hne => heap_setCell_other w _ b _ hne
  refine ⟨⟨⟨U, h1.keep (by omega) fun b _ hU => ho b fun he => h2 b hU (.inr he), h2, fun b hU => by rw [hz]; exact h3 b hU, fun b hF => by rw [hz]; exact h4 b hF⟩, ?_, h6⟩, (Turned.refl _ w).setCell ⟨p, 1, none⟩ _ h6⟩
  rw [heap_setCell_same w p 1 _ _ _ h5]; rfl
theorem SIn.inv {F : Nat → Prop} {w : World} {p g q m : Nat} {x : SS} (h : SIn F w p g q m x) : GInv m x.s := h.1.inv
def SOne (F : Nat → Prop) (p g q m : Nat) (v : Value) (x : SS) (w : World) (e : Ending) (w' : World) : Prop := e = .returned v ∧ SGo F p g q m x w w'
def STwo (F : Nat → Prop) (p g q m : Nat) (r : Nat × Int × SS) (w : World) (e : Ending) (w' : World) : Prop := e = .returned (.tuple #[.int .u64 (r.1 : Int), .int .i64 r.2.1]) ∧ SGo F p g q m r.2.2 w w'
def SFin (F : Nat → Prop) (p g q m : Nat) (x : SS) (w : World) (e : Ending) (w' : World) : Prop := ∃ K : Nat, e = .returned (.int .i64 (K : Int)) ∧ SGo F p g q m x.finish w w'
section
variable (F : Nat → Prop) (p g q m : Nat) (x : SS) (w : World) (h : SIn F w p g q m x) (hc : x.cy ≤ 1000000000)
include h hc
set_option maxHeartbeats 1000000 in
theorem st_step (hT : Tab w) : Calls Tryz.prog 46 #[.pointer (some ⟨p, 0, none⟩)] w (SOne F p g q m (.bool x.step.1) x.step.2 w) := by
  obtain ⟨k0, k1, k2, kf, kl⟩ := h.head
  have HST := Lib.hid (v_Step _ g q m x.s w h.1 hT)
  have H := Lib.hid h
  have hb : x.s.step.1 = true ∨ x.s.step.1 = false := by cases x.s.step.1 <;> simp
  rcases hb with hb | hb
  · have HX : Hid (x.step = (true, ⟨x.s.step.2, x.cy + 1⟩)) := Lib.hid (by unfold SS.step; rw [hb, if_pos rfl])
    rw [hb] at HST
    have E1 : IntKind.i64.wrap ((x.cy : Int) + 1) = ((x.cy + 1 : Nat) : Int) := by rw [IntKind.wrap_i64]; omega
    clear h hb hT kf k2
    go_enter Tryz.func46, Tryz.ntmps46
    go_wp2_with fail
    refine HST.out.mono ?_
    rintro e w1 ⟨rfl, hs⟩
    have h1 := H.out.go hs
    obtain ⟨j0, j1, j2, jf, jl⟩ := h1.1.head
    have f1 := jf 1
    have HE : Hid (SGo F p g q m ⟨x.s.step.2, x.cy + 1⟩ w (w1.setCell ⟨p, 1, none⟩ (.int .i64 ((x.cy + 1 : Nat) : Int)))) := Lib.hid (h1.then (h1.1.count (x.cy + 1)))
    have j1 : w1.cell? ⟨p, 1, none⟩ = some (.int .i64 (x.cy : Int)) := j1
    clear hs h1 jf j2 k0 k1
    go_wp2_with fail
    go_ret
    exact ⟨by rw [HX.out]; rfl, by rw [HX.out]; exact HE.out⟩
  · have HX : Hid (x.step = (false, ⟨x.s.step.2, x.cy⟩)) := Lib.hid (by unfold SS.step; rw [hb, if_neg (by simp)])
    rw [hb] at HST
    clear h hb hT kf k2
    go_enter Tryz.func46, Tryz.ntmps46
    go_wp2_with fail
    refine HST.out.mono ?_
    rintro e w1 ⟨rfl, hs⟩
    have HE := Lib.hid (H.out.go hs)
    clear hs
    go_wp2_with fail
    go_ret
    exact ⟨by rw [HX.out]; rfl, by rw [HX.out]; exact HE.out⟩
set_option maxHeartbeats 1000000 in
theorem st_finish (hT : Tab w) (hF : F 0) : Calls Tryz.prog 33 #[.pointer (some ⟨p, 0, none⟩)] w (SFin F p g q m x w) := by
  obtain ⟨k0, k1, k2, kf, kl⟩ := h.head
  have HFI := Lib.hid (v_Finish _ g q m x.s w h.1 hT (.inl hF))
  have H := Lib.hid h
  clear h hT kf k2
  by_cases h0 : x.s.ph = 0
  · have HK : Hid (∀ K, EndsAt x.s K → K = 0 ∧ x.finish = ⟨x.s.run K, x.cy⟩) := Lib.hid (fun K hK => ⟨(ends_zero hK).2 h0, by unfold SS.finish; rw [done_is hK, if_pos h0]⟩)
    clear h0
    go_enter Tryz.func33, Tryz.ntmps33
    go_wp2_with fail
    refine HFI.out.mono ?_
    rintro e w1 ⟨K, rfl, hK, hs⟩
    have HFN := Lib.hid (HK.out K hK).2
    obtain rfl := (HK.out K hK).1
    have HE := Lib.hid (H.out.go hs)
    clear hs hK
    go_wp2_with fail
    go_ret
    exact ⟨0, rfl, by rw [HFN.out]; exact HE.out⟩
  · have HK : Hid (∀ K, EndsAt x.s K → 0 < K ∧ x.finish = ⟨x.s.run K, x.cy + 1⟩) := Lib.hid (fun K hK => ⟨Nat.pos_of_ne_zero fun hx => h0 ((ends_zero hK).1 hx), by unfold SS.finish; rw [done_is hK, if_neg h0]⟩)
    have E1 : IntKind.i64.wrap ((x.cy : Int) + 1) = ((x.cy + 1 : Nat) : Int) := by rw [IntKind.wrap_i64]; omega
    clear h0
    go_enter Tryz.func33, Tryz.ntmps33
    go_wp2_with fail
    refine HFI.out.mono ?_
    rintro e w1 ⟨K, rfl, hK, hs⟩
    have HFN := Lib.hid (HK.out K hK).2
    have hpos := (HK.out K hK).1
    have g1 : decide ((0 : Int) < (K : Int)) = true := decide_eq_true (by omega)
    have g1' : decide (0 < K) = true := decide_eq_true hpos
    have h1 := H.out.go hs
    obtain ⟨j0, j1, j2, jf, jl⟩ := h1.1.head
    have f1 := jf 1
    have HE : Hid (SGo F p g q m ⟨x.s.run K, x.cy + 1⟩ w (w1.setCell ⟨p, 1, none⟩ (.int .i64 ((x.cy + 1 : Nat) : Int)))) := Lib.hid (h1.then (h1.1.count (x.cy + 1)))
    have j1 : w1.cell? ⟨p, 1, none⟩ = some (.int .i64 (x.cy : Int)) := j1
    clear hs h1 jf j2 hK hpos k0 k1
    go_wp2_with fail
    go_ret
    exact ⟨K, rfl, by rw [HFN.out]; exact HE.out⟩
end
theorem alloc_cases {m : Nat} {s : GS} (h : GInv m s) (hm : m ≤ 65536) (kd n : Int) : (∃ e : Int, e ≠ 0 ∧ s.alloc m kd n = (0, e, s)) ∨ ∃ (a : Nat) (t : GS), a ≤ 65536 ∧ s.alloc m kd n = ((a : Int), 0, t) := by
  rcases alloc_facts kd n h.lies with ⟨e, he, ha⟩ | ⟨a, kk, nn, L', ha, _, _, _, _, hl, _, hf, _⟩
  · exact .inl ⟨e, he, by unfold GS.alloc; rw [ha, if_neg he]⟩
  · have hin : IsIn L' a := by unfold IsIn; rw [hf, if_pos rfl]; rfl
    have := isIn_range hl hin
    exact .inr ⟨a, s.laid L' a, by omega, by unfold GS.alloc; rw [ha, if_pos rfl]; rfl⟩
theorem words_less {w : World} {V V' : Nat → Prop} {A : Option Addr} {n : Nat} {xs : List Nat} (h : WordsAt w V A n xs) (hV : ∀ b, V b → V' b) : WordsAt w V' A n xs := ⟨h.1, h.2.1, fun i hi => by
  obtain ⟨b, off, h1, h2, h3, h4⟩ := h.2.2 i hi
  exact ⟨b, off, h1, h2, hV b h3, h4⟩⟩
def SLook (v : Value) (w : World) (e : Ending) (w' : World) : Prop := e = .returned v ∧ Below w.heap.size w w'
theorem SIn.few {F : Nat → Prop} {w : World} {p g q m : Nat} {x : SS} (h : SIn F w p g q m x) : m ≤ 65536 := h.1.few
theorem SIn.drewN {F : Nat → Prop} {w : World} {p g q m : Nat} {x : SS} (h : SIn F w p g q m x) (n : Nat) : SIn F (w.drewN n) p g q m x := h.below (below_drewN (Below.refl _ _) n)
theorem SIn.tab {F : Nat → Prop} {w w' : World} {p g q m : Nat} {x : SS} (h : SGo F p g q m x w w') (hT : Tab w) (hF : F 0) : Tab w' := hT.turned h.2 (fun hn => hn hF)
section
variable (F : Nat → Prop) (p g q m : Nat) (x : SS) (w : World) (h : SIn F w p g q m x)
include h
theorem st_Cycles : Calls Tryz.prog 25 #[.pointer (some ⟨p, 0, none⟩)] w (OneSame (x.cy : Nat) w) := by
  obtain ⟨k0, k1, k2, kf, kl⟩ := h.head
  clear h kf k2
  go_enter Tryz.func25, Tryz.ntmps25
  go_wp2_with fail
  go_ret
  exact ⟨rfl, rfl⟩
theorem st_Room : Calls Tryz.prog 22 #[.pointer (some ⟨p, 0, none⟩)] w (IntMade (roomOf m x.s.L : Nat) w) := by
  obtain ⟨k0, k1, k2, kf, kl⟩ := h.head
  obtain ⟨S, hS⟩ := h.1.heap
  have HR := Lib.hid (g_Room q S m x.s.L w hS)
  clear h kf hS k0 k1
  go_enter Tryz.func22, Tryz.ntmps22
  go_wp2_with fail
  refine HR.out.mono ?_
  rintro e w1 ⟨rfl, hb⟩
  have HB := Lib.hid hb
  clear hb
  go_wp2_with fail
  go_ret
  exact ⟨rfl, HB.out⟩
theorem st_Get (v : Nat) (hv : v < 18446744073709551616) (i : Int) : Calls Tryz.prog 13 #[.pointer (some ⟨p, 0, none⟩), .int .u64 (v : Int), .int .i64 i] w (SLook (.tuple #[.int .u64 ((hGet x.s.L (addrW v : Nat) i).1 : Nat), .int .i64 (hGet x.s.L (addrW v : Nat) i).2]) w) := by
  obtain ⟨k0, k1, k2, kf, kl⟩ := h.head
  have HGT := Lib.hid (fun n => v_Get _ g q m x.s _ (h.drewN n).1 (addrW v : Nat) i)
  have HAD := Lib.hid (fun n => addr_any v hv (w.drewN n))
  clear h kf k0 k1
  generalize hGet x.s.L (addrW v : Nat) i = r at *
  obtain ⟨y, er⟩ := r
  simp only at *
  generalize addrW v = a at *
  go_enter Tryz.func13, Tryz.ntmps13
  go_wp2_with fail
  go_quiet ((first | (go_at_call 40; exact Calls.quiet_of_same ((HAD.out _).mono fun e w' hh => ⟨hh.1, hh.2.symm⟩)) | (go_at_call 43; exact Calls.quiet_of_same ((HGT.out _).mono fun e w' hh => ⟨hh.1, hh.2.symm⟩))))
  go_wp2_with fail
  go_ret2
  exact ⟨rfl, below_drewN (Below.refl _ _) _⟩
theorem st_Kind (v : Nat) (hv : v < 18446744073709551616) : Calls Tryz.prog 26 #[.pointer (some ⟨p, 0, none⟩), .int .u64 (v : Int)] w (SLook (.int .i64 ((hKind x.s.L (addrW v : Nat)).1 : Nat)) w) := by
  obtain ⟨k0, k1, k2, kf, kl⟩ := h.head
  have HGT := Lib.hid (fun n => v_Kind _ g q m x.s _ (h.drewN n).1 (addrW v : Nat))
  have HAD := Lib.hid (fun n => addr_any v hv (w.drewN n))
  clear h kf k0 k1
  generalize hKind x.s.L (addrW v : Nat) = r at *
  obtain ⟨y, er⟩ := r
  simp only at *
  generalize addrW v = a at *
  go_enter Tryz.func26, Tryz.ntmps26
  go_wp2_with fail
  go_quiet ((first | (go_at_call 40; exact Calls.quiet_of_same ((HAD.out _).mono fun e w' hh => ⟨hh.1, hh.2.symm⟩)) | (go_at_call 60; exact Calls.quiet_of_same ((HGT.out _).mono fun e w' hh => ⟨hh.1, hh.2.symm⟩))))
  go_wp2_with fail
  go_ret
  exact ⟨rfl, below_drewN (Below.refl _ _) _⟩
theorem st_Size (v : Nat) (hv : v < 18446744073709551616) : Calls Tryz.prog 27 #[.pointer (some ⟨p, 0, none⟩), .int .u64 (v : Int)] w (SLook (.int .i64 ((hSize x.s.L (addrW v : Nat)).1 : Nat)) w) := by
  obtain ⟨k0, k1, k2, kf, kl⟩ := h.head
  have HGT := Lib.hid (fun n => v_Size _ g q m x.s _ (h.drewN n).1 (addrW v : Nat))
  have HAD := Lib.hid (fun n => addr_any v hv (w.drewN n))
  clear h kf k0 k1
  generalize hSize x.s.L (addrW v : Nat) = r at *
  obtain ⟨y, er⟩ := r
  simp only at *
  generalize addrW v = a at *
  go_enter Tryz.func27, Tryz.ntmps27
  go_wp2_with fail
  go_quiet ((first | (go_at_call 40; exact Calls.quiet_of_same ((HAD.out _).mono fun e w' hh => ⟨hh.1, hh.2.symm⟩)) | (go_at_call 61; exact Calls.quiet_of_same ((HGT.out _).mono fun e w' hh => ⟨hh.1, hh.2.symm⟩))))
  go_wp2_with fail
  go_ret
  exact ⟨rfl, below_drewN (Below.refl _ _) _⟩
theorem st_Set (v : Nat) (hv : v < 18446744073709551616) (i : Int) (y : Nat) (hy : y < 18446744073709551616) : Calls Tryz.prog 11 #[.pointer (some ⟨p, 0, none⟩), .int .u64 (v : Int), .int .i64 i, .int .u64 (y : Int)] w (SOne F p g q m (.int .i64 (x.s.write (addrW v : Nat) i y).1) ⟨(x.s.write (addrW v : Nat) i y).2, x.cy⟩ w) := by
  obtain ⟨k0, k1, k2, kf, kl⟩ := h.head
  have HWR := Lib.hid (fun W (hW : SIn F W p g q m x) => v_Write _ g q m x.s W hW.1 (addrW v : Nat) i y hy)
  have HAD := Lib.hid (fun W => addr_any v hv W)
  have H := Lib.hid h
  clear h kf k1 k2
  generalize addrW v = a at *
  go_enter Tryz.func11, Tryz.ntmps11
  go_wp2_with fail
  go_region_held3 (fun W => W.cell? ⟨p, 0, none⟩ = some (.pointer (some ⟨g, 0, none⟩))) (go_keep)
    (first | (go_at_call 40; refine (HAD.out _).mono ?_; rintro e w' ⟨rfl, rfl⟩) | (go_at_call 39; refine (HWR.out _ ?_).mono ?_; exact H.out.below (Below.refl _ w).drew; rintro e w6 ⟨rfl, hs6⟩; have H6 := Lib.hid hs6; clear hs6; have j0 := ((H.out.below (Below.refl _ w).drew).go H6.out).1.head.1))
  all_goals
    have HE : Hid (SGo F p g q m ⟨(x.s.write (a : Int) i y).2, x.cy⟩ w w6) := Lib.hid (by
      have h1 := (H.out.below (Below.refl _ w).drew).go H6.out
      exact ⟨h1.1, (Stands.of_below (Below.refl _ w).drew).trans h1.2⟩)
    clear H6 j0
    go_wp2_with fail
    go_ret
    exact ⟨rfl, HE.out⟩
theorem st_Pick (hT : Tab w) (hc : x.cy ≤ 1000000000) (A : Option Addr) (n c : Nat) (xs : List Nat) (hx : WordsAt w F A n xs) (hn : n ≤ 9223372036854775807) :
    Calls Tryz.prog 15 #[.pointer (some ⟨p, 0, none⟩), .slice A n c] w (SOne F p g q m (.tuple #[]) (x.pick xs) w) := by
  obtain ⟨k0, k1, k2, kf, kl⟩ := h.head
  have HPH := Lib.hid (v_Phase _ g q m x.s w h.1)
  have H := Lib.hid h
  by_cases hp : x.s.ph = 0
  · have HBG := Lib.hid (v_Begin _ g q m x.s w h.1 A n c xs (words_less hx fun _ hb => .inl hb) hn)
    have HX : Hid (x.pick xs = ⟨(x.s.begin xs).2, x.cy⟩) := Lib.hid (by unfold SS.pick; rw [if_pos hp])
    rw [hp] at HPH
    clear h kf k1 k2 hp hx
    go_enter Tryz.func15, Tryz.ntmps15
    go_wp2_with fail
    refine HPH.out.mono ?_
    rintro e w' ⟨rfl, rfl⟩
    go_wp2_with fail
    refine HBG.out.mono ?_
    rintro e w1 ⟨rfl, hs⟩
    have HE := Lib.hid (H.out.go hs)
    clear hs
    go_wp2_with fail
    go_end0
    exact ⟨rfl, by rw [HX.out]; exact HE.out⟩
  · have HST := Lib.hid (st_step F p g q m x w h hc hT)
    have HX : Hid (x.pick xs = x.step.2) := Lib.hid (by unfold SS.pick; rw [if_neg hp])
    have B1 : ((x.s.ph : Int) == 0) = false := by rw [beq_eq_false_iff_ne]; omega
    clear h kf k1 k2 hp hx
    generalize x.s.ph = ph at *
    go_enter Tryz.func15, Tryz.ntmps15
    go_wp2_with fail
    refine HPH.out.mono ?_
    rintro e w' ⟨rfl, rfl⟩
    go_wp2_with fail
    refine HST.out.mono ?_
    rintro e w1 ⟨rfl, hs⟩
    have HE := Lib.hid hs
    clear hs
    go_wp2_with fail
    go_end0
    exact ⟨rfl, by rw [HX.out]; exact HE.out⟩
end
set_option maxHeartbeats 2000000 in
set_option maxRecDepth 100000 in
theorem st_Alloc (F : Nat → Prop) (p g q m : Nat) (x : SS) (w : World) (h : SIn F w p g q m x) (hT : Tab w) (hF : F 0) (hc : x.cy ≤ 100000000) (kd n : Int) (A : Option Addr) (nr c : Nat) (xs : List Nat) (hx : WordsAt w F A nr xs) (hn : nr ≤ 9223372036854775807) :
    Calls Tryz.prog 9 #[.pointer (some ⟨p, 0, none⟩), .int .i64 kd, .int .i64 n, .slice A nr c] w (STwo F p g q m (x.alloc m kd n xs) w) := by
  obtain ⟨k0, k1, k2, kf, kl⟩ := h.head
  have H := Lib.hid h
  have HAL := Lib.hid (fun (z : SS) W (hW : SIn F W p g q m z) => v_Alloc _ g q m z.s W hW.1 kd n)
  have HFI := Lib.hid (fun (z : SS) W (hW : SIn F W p g q m z) (hz : z.cy ≤ 1000000000) (hst : Stands F w W) => st_finish F p g q m z W hW hz (hT.turned hst (fun hn => hn hF)) hF)
  have HBG := Lib.hid (fun (z : SS) W (hW : SIn F W p g q m z) (hst : Stands F w W) => v_Begin _ g q m z.s W hW.1 A nr c xs (words_less (hx.keep hst.size fun b hl hv => hst.block b hl fun hn => hn hv) fun _ hb => .inl hb) hn)
  have HGO := Lib.hid (fun (z : SS) (t : GS) W W' (hz : SGo F p g q m z w W) (hs : GGo (fun b => F b ∨ b = p) g q m t W W') => hz.then (hz.1.go hs))
  have H0 : Hid (SGo F p g q m x w w) := Lib.hid ⟨h, Turned.refl _ _⟩
  have hcase := alloc_cases h.inv h.few kd n
  have hal1 := HAL.out x w h
  have HC := Lib.hid hc
  clear h hT hx hc kf k1 k2
  rcases hcase with ⟨e, he, ha⟩ | ⟨a, t, hsm, ha⟩
  · rw [ha] at hal1
    have B2 : (e != 0) = true := by rw [bne_iff_ne]; exact he
    by_cases h6 : e = 6
    · subst h6
      have HA := Lib.hid ha
      have HL1 := Lib.hid hal1
      clear ha hal1 he B2
      go_enter Tryz.func9, Tryz.ntmps9
      go_wp2_with fail
      refine HL1.out.mono ?_
      rintro e w1 ⟨rfl, hs1⟩
      have H1 : Hid (SGo F p g q m x w w1) := Lib.hid (HGO.out x x.s w w1 H0.out hs1)
      have k0 := H1.out.1.head.1
      clear hs1 HL1
      go_wp2_with fail
      refine (HFI.out x w1 H1.out.1 (by have := HC.out; omega) H1.out.2).mono ?_
      rintro e w2 ⟨K, rfl, hs2⟩
      have H2 : Hid (SGo F p g q m x.finish w w2) := Lib.hid (H1.out.then hs2)
      have HY : Hid (x.second m kd n = x.finish) := Lib.hid (by unfold SS.second; rw [HA.out])
      have k0 := H2.out.1.head.1
      have hcase := alloc_cases H2.out.1.inv H2.out.1.few kd n
      have hal2 := HAL.out x.finish w2 H2.out.1
      have HCY : Hid (x.finish.cy ≤ 100000001) := Lib.hid (by have := HC.out; unfold SS.finish; split <;> simp <;> omega)
      clear hs2
      generalize x.finish = y at *
      rcases hcase with ⟨e, he, ha⟩ | ⟨a, t, hsm, ha⟩
      · rw [ha] at hal2
        have B2 : (e != 0) = true := by rw [bne_iff_ne]; exact he
        by_cases h6 : e = 6
        · subst h6
          have HA2 := Lib.hid ha
          have HL2 := Lib.hid hal2
          clear ha hal2 he B2
          go_wp2_with fail
          refine HL2.out.mono ?_
          rintro e w3 ⟨rfl, hs3⟩
          have H3 : Hid (SGo F p g q m y w w3) := Lib.hid (HGO.out y y.s w2 w3 H2.out hs3)
          have k0 := H3.out.1.head.1
          clear hs3 HL2
          have hbg := HBG.out y w3 H3.out.1 H3.out.2
          go_wp2_with fail
          refine hbg.mono ?_
          clear hbg
          rintro e w4 ⟨rfl, hs4⟩
          have H4 : Hid (SGo F p g q m ⟨(y.s.begin xs).2, y.cy⟩ w w4) := Lib.hid (HGO.out y _ w3 w4 H3.out hs4)
          have k0 := H4.out.1.head.1
          clear hs4
          go_wp2_with fail
          refine (HFI.out _ w4 H4.out.1 (by have := HCY.out; show y.cy ≤ _; omega) H4.out.2).mono ?_
          rintro e w5 ⟨K2, rfl, hs5⟩
          have H5 := Lib.hid (H4.out.then hs5)
          have HZ : Hid (y.third m kd n xs = SS.finish ⟨(y.s.begin xs).2, y.cy⟩) := Lib.hid (by unfold SS.third; rw [HA2.out])
          clear hs5
          generalize SS.finish ⟨(y.s.begin xs).2, y.cy⟩ = z at *
          have k0 := H5.out.1.head.1
          have hcase := alloc_cases H5.out.1.inv H5.out.1.few kd n
          have hal3 := HAL.out z w5 H5.out.1
          rcases hcase with ⟨e, he, ha⟩ | ⟨a, t, hsm, ha⟩
          · rw [ha] at hal3
            have B2 : (e != 0) = true := by rw [bne_iff_ne]; exact he
            have HX : Hid (x.alloc m kd n xs = (0, e, z)) := Lib.hid (by unfold SS.alloc; rw [HA.out, if_pos rfl, HY.out, HA2.out, if_pos rfl, HZ.out, ha]; unfold SS.put; rw [if_neg he])
            have HL3 := Lib.hid hal3
            clear ha hal3 he
            go_wp2_with fail
            refine HL3.out.mono ?_
            rintro x9 w6 ⟨rfl, hs6⟩
            have H6 := Lib.hid (HGO.out z z.s w5 w6 H5.out hs6)
            clear hs6 HL3
            go_wp2_with fail
            go_ret2
            refine ⟨by rw [HX.out]; rfl, ?_⟩
            rw [HX.out]
            exact H6.out
          · rw [ha] at hal3
            have HX : Hid (x.alloc m kd n xs = (2 * a, 0, ⟨t, z.cy⟩)) := Lib.hid (by unfold SS.alloc; rw [HA.out, if_pos rfl, HY.out, HA2.out, if_pos rfl, HZ.out, ha]; unfold SS.put; rw [if_pos rfl]; rfl)
            have HL3 := Lib.hid hal3
            clear ha hal3
            go_wp2_with fail
            refine HL3.out.mono ?_
            rintro x9 w6 ⟨rfl, hs6⟩
            have H6 := Lib.hid (HGO.out z t w5 w6 H5.out hs6)
            clear hs6 HL3
            have hrf := ref_any a (by omega)
            have HRF := Lib.hid hrf
            clear hrf
            go_wp2_with fail
            refine (HRF.out _).mono ?_
            rintro e w' ⟨rfl, rfl⟩
            go_wp2_with fail
            go_ret2
            refine ⟨by rw [HX.out]; rfl, ?_⟩
            rw [HX.out]
            exact H6.out
        · have B1 : (e == 6) = false := by rw [beq_eq_false_iff_ne]; exact h6
          have HX : Hid (x.alloc m kd n xs = (0, e, y)) := Lib.hid (by unfold SS.alloc; rw [HA.out, if_pos rfl, HY.out, ha, if_neg h6]; unfold SS.put; rw [if_neg he])
          have HL3 := Lib.hid hal2
          clear ha hal2 he h6
          go_wp2_with fail
          refine HL3.out.mono ?_
          rintro x9 w6 ⟨rfl, hs6⟩
          have H6 := Lib.hid (HGO.out y y.s w2 w6 H2.out hs6)
          clear hs6 HL3
          go_wp2_with fail
          go_ret2
          refine ⟨by rw [HX.out]; rfl, ?_⟩
          rw [HX.out]
          exact H6.out
      · rw [ha] at hal2
        have HX : Hid (x.alloc m kd n xs = (2 * a, 0, ⟨t, y.cy⟩)) := Lib.hid (by unfold SS.alloc; rw [HA.out, if_pos rfl, HY.out, ha, if_neg (by show ¬ ((0 : Int) = 6); decide)]; unfold SS.put; rw [if_pos rfl]; rfl)
        have HL3 := Lib.hid hal2
        clear ha hal2
        go_wp2_with fail
        refine HL3.out.mono ?_
        rintro x9 w6 ⟨rfl, hs6⟩
        have H6 := Lib.hid (HGO.out y t w2 w6 H2.out hs6)
        clear hs6 HL3
        have hrf := ref_any a (by omega)
        have HRF := Lib.hid hrf
        clear hrf
        go_wp2_with fail
        refine (HRF.out _).mono ?_
        rintro e w' ⟨rfl, rfl⟩
        go_wp2_with fail
        go_ret2
        refine ⟨by rw [HX.out]; rfl, ?_⟩
        rw [HX.out]
        exact H6.out
    · have B1 : (e == 6) = false := by rw [beq_eq_false_iff_ne]; exact h6
      have HX : Hid (x.alloc m kd n xs = (0, e, x)) := Lib.hid (by unfold SS.alloc; rw [ha, if_neg h6]; unfold SS.put; rw [if_neg he])
      have HL3 := Lib.hid hal1
      clear ha hal1 he h6
      go_enter Tryz.func9, Tryz.ntmps9
      go_wp2_with fail
      refine HL3.out.mono ?_
      rintro x9 w6 ⟨rfl, hs6⟩
      have H6 := Lib.hid (HGO.out x x.s w w6 H0.out hs6)
      clear hs6 HL3
      go_wp2_with fail
      go_ret2
      refine ⟨by rw [HX.out]; rfl, ?_⟩
      rw [HX.out]
      exact H6.out
  · rw [ha] at hal1
    have HX : Hid (x.alloc m kd n xs = (2 * a, 0, ⟨t, x.cy⟩)) := Lib.hid (by unfold SS.alloc; rw [ha, if_neg (by show ¬ ((0 : Int) = 6); decide)]; unfold SS.put; rw [if_pos rfl]; rfl)
    have HL3 := Lib.hid hal1
    clear ha hal1
    go_enter Tryz.func9, Tryz.ntmps9
    go_wp2_with fail
    refine HL3.out.mono ?_
    rintro x9 w6 ⟨rfl, hs6⟩
    have H6 := Lib.hid (HGO.out x t w w6 H0.out hs6)
    clear hs6 HL3
    have hrf := ref_any a (by omega)
    have HRF := Lib.hid hrf
    clear hrf
    go_wp2_with fail
    refine (HRF.out _).mono ?_
    rintro e w' ⟨rfl, rfl⟩
    go_wp2_with fail
    go_ret2
    refine ⟨by rw [HX.out]; rfl, ?_⟩
    rw [HX.out]
    exact H6.out
def SNew (m : Nat) (w : World) (e : Ending) (w' : World) : Prop := ∃ p g q, e = .returned (.pointer (some ⟨p, 0, none⟩)) ∧ SIn (fun b => b < w.heap.size) w' p g q m ⟨⟨[], 0, [], [], 0⟩, 0⟩ ∧ Below w.heap.size w w' ∧ w.heap.size ≤ p
theorem st_New_nil (words : Int) (w : World) (h : words < 2 ∨ 65536 < words) : Calls Tryz.prog 6 #[.int .i64 words] w fun e w' => e = .returned (.pointer none) ∧ w = w' := by
  go_enter Tryz.func6, Tryz.ntmps6
  go_wp2_with fail
  refine (new_nil words _ h).mono ?_
  rintro e w' ⟨rfl, rfl⟩
  go_wp2_with fail
  go_ret
  exact ⟨rfl, rfl⟩
theorem snew_start {m q g : Nat} {w w2 w3 : World} (h2 : HAt w2 q (fun b => w.heap.size ≤ b) m []) (hb2 : Below w.heap.size w w2) (h3 : GAt w3 g q (fun b => (w.heap.size ≤ b) ∨ w2.heap.size ≤ b) m ⟨[], 0, [], [], 0⟩) (hb3 : Below w2.heap.size w2 w3) :
    SIn (fun b => b < w.heap.size) (w3.alloc (.cells #[.pointer (some ⟨g, 0, none⟩), .int .i64 0, .pointer (some ⟨q, 0, none⟩)] 70)) w3.heap.size g q m ⟨⟨[], 0, [], [], 0⟩, 0⟩ ∧
      Below w.heap.size w (w3.alloc (.cells #[.pointer (some ⟨g, 0, none⟩), .int .i64 0, .pointer (some ⟨q, 0, none⟩)] 70)) ∧ w.heap.size ≤ w3.heap.size := by
  have z2 := hb2.size
  have z3 := hb3.size
  have _ := h2
  have hb4 : Below w3.heap.size w3 (w3.alloc (.cells #[.pointer (some ⟨g, 0, none⟩), .int .i64 0, .pointer (some ⟨q, 0, none⟩)] 70)) := below_one _
  refine ⟨⟨⟨_, h3.bound.below hb4, ?_, fun b hU => by have := hU.2; simp; omega, ?_⟩, heap_alloc_new w3 _, fun hx => ?_⟩, (hb2.trans (hb3.mono z2)).trans (hb4.mono (by omega)), by omega⟩
  · rintro b ⟨hU, hl⟩ (hF | rfl)
    · have : b < w.heap.size := hF
      rcases hU with h | h <;> omega
    · omega
  · rintro b (hF | rfl)
    · have : b < w.heap.size := hF
      simp; omega
    · simp
  · have : w3.heap.size < w.heap.size := hx
    omega
theorem st_New (m : Nat) (h2 : 2 ≤ m) (hm : m ≤ 65536) (w : World) : Calls Tryz.prog 6 #[.int .i64 (m : Int)] w (SNew m w) := by
  go_enter Tryz.func6, Tryz.ntmps6
  go_wp2_with fail
  refine (g_New m h2 hm _).mono ?_
  rintro e w2 ⟨q, rfl, h2', hb2⟩
  have H2 := Lib.hid h2'
  have HB2 := Lib.hid hb2
  clear h2' hb2
  go_wp2_with fail
  refine (gnew_any q m _ [] w2 H2.out hm).mono ?_
  rintro e w3 ⟨g, rfl, h3, hb3⟩
  have HE := Lib.hid (snew_start H2.out HB2.out h3 hb3)
  clear h3 hb3 H2 HB2
  go_wp2_with fail
  go_ret
  exact ⟨_, g, q, rfl, HE.out⟩
def fieldsOf (n : Nat) : Nat := 1 + (n + 7) / 8
theorem fieldsFor_any (n : Nat) (hn : n ≤ 4611686018427387904) (w : World) : Calls Tryz.prog 48 #[.int .i64 (n : Int)] w (OneSame (fieldsOf n : Nat) w) := by
  have E1 : IntKind.i64.wrap ((n : Int) + 8) = (n : Int) + 8 := by rw [IntKind.wrap_i64]; omega
  have E2 : IntKind.i64.wrap ((n : Int) + 8 - 1) = (n : Int) + 7 := by rw [IntKind.wrap_i64]; omega
  have HV : Hid ((1 : Int) + ((n : Int) + 7) / 8 = (fieldsOf n : Nat)) := Lib.hid (by unfold fieldsOf; omega)
  go_enter Tryz.func48, Tryz.ntmps48
  go_wp2_with fail
  go_ret
  exact ⟨by rw [← HV.out]; rfl, rfl⟩
def packL : List UInt8 → Nat
  | [] => 0
  | c :: r => c.toNat + 256 * packL r
theorem packL_snoc (l : List UInt8) (c : UInt8) : packL (l ++ [c]) = packL l + c.toNat * 256 ^ l.length := by
  induction l with
  | nil => simp [packL]
  | cons a l ih =>
    simp only [List.cons_append, packL, ih, List.length_cons, Nat.pow_succ]
    rw [Nat.mul_add, ← Nat.add_assoc]
    congr 1
    rw [Nat.mul_comm 256, Nat.mul_assoc]
theorem packL_lt (l : List UInt8) : packL l < 256 ^ l.length := by
  induction l with
  | nil => decide
  | cons a l ih =>
    simp only [packL, List.length_cons, Nat.pow_succ]
    have := a.toNat_lt
    omega
theorem or_step (x c k : Nat) (hx : x < 256 ^ k) (hc : c < 256) (hk : k < 8) : bits BinOp.or IntKind.u64 (x : Int) (IntKind.u64.wrap (IntKind.u64.wrap (c : Int) * 2 ^ (8 * k))) = ((x + c * 256 ^ k : Nat) : Int) := by
  have hp : (2 : Nat) ^ (8 * k) ≤ 2 ^ 56 := Nat.pow_le_pow_right (by decide) (by omega)
  have h2 : (256 : Nat) ^ k = 2 ^ (8 * k) := by rw [Nat.pow_mul]
  rw [h2] at hx ⊢
  have e1 : IntKind.u64.wrap (c : Int) = (c : Int) := by rw [IntKind.wrap_u64]; omega
  have e2 : ((c : Int) * 2 ^ (8 * k)) = ((c * 2 ^ (8 * k) : Nat) : Int) := by simp
  have hm : c * 2 ^ (8 * k) < 18446744073709551616 := by
    have h3 : c * 2 ^ (8 * k) ≤ 255 * 2 ^ 56 := Nat.mul_le_mul (by omega) hp
    omega
  have e3 : IntKind.u64.wrap ((c * 2 ^ (8 * k) : Nat) : Int) = ((c * 2 ^ (8 * k) : Nat) : Int) := by
    generalize c * 2 ^ (8 * k) = y at *
    rw [IntKind.wrap_u64]; omega
  rw [e1, e2, e3, bits_or_u64_nat x _ (by omega) hm, Nat.or_comm, Nat.mul_comm c, ← Nat.two_pow_add_eq_or_of_lt hx, Nat.add_comm]
theorem pack_any (s : ByteArray) (hs : s.size ≤ 8) (w : World) : Calls Tryz.prog 50 #[.string s] w fun e w' => e = .returned (.int .u64 (packL s.data.toList : Nat)) ∧ w = w' := by
  go_enter Tryz.func50, Tryz.ntmps50
  go_wp2_with fail
  go_loop [7, 3] (fun vi vw => ∃ k : Nat, k ≤ s.size ∧ vi = .int .i64 k ∧ vw = .int .u64 (packL (s.data.toList.take k) : Nat)) (fun vi _ => s.size - (intOf vi).toNat)
  case atStart => exact ⟨0, Nat.zero_le _, by go_num, rfl⟩
  case round =>
    obtain ⟨k, hk, rfl, rfl⟩ := hrel
    by_cases hkl : k < s.size
    · have g1 : decide ((k : Int) < (s.size : Int)) = true := decide_eq_true (by omega)
      have g1' : decide (k < s.size) = true := decide_eq_true hkl
      have hlk : (s.data.toList.take k).length = k := by rw [List.length_take]; exact Nat.min_eq_left (by show k ≤ s.size; omega)
      have hx := packL_lt (s.data.toList.take k)
      rw [hlk] at hx
      have HP : Hid (packL (s.data.toList.take (k + 1)) = packL (s.data.toList.take k) + s[k].toNat * 256 ^ k) := Lib.hid (by
        have h9 : s.data.toList.take (k + 1) = s.data.toList.take k ++ [s[k]] := by rw [List.take_succ_eq_append_getElem (by simpa using hkl)]; rfl
        rw [h9, packL_snoc, hlk])
      have HO := Lib.hid (or_step (packL (s.data.toList.take k)) s[k].toNat k hx s[k].toNat_lt (by omega))
      clear hx hlk
      generalize packL (s.data.toList.take k) = x at *
      go_wp2_with fail
      go_round
      case rel => exact ⟨k + 1, by omega, by go_num, by rw [HO.out, HP.out]⟩
      case measure => simp [intOf]; omega
    · have g1 : decide ((k : Int) < (s.size : Int)) = false := decide_eq_false (by omega)
      have g1' : decide (k < s.size) = false := decide_eq_false hkl
      obtain rfl : k = s.size := by omega
      have HT : Hid (s.data.toList.take s.size = s.data.toList) := Lib.hid (List.take_of_length_le (Nat.le_refl _))
      rw [HT.out]
      go_wp2_with fail
      go_ret
      exact ⟨rfl, rfl⟩
theorem infoByte : (Tryz.prog.info? 5).map (fun i => (i.zero, i.size, i.bytes)) = some (some (.int .u8 0), 1, 1) := by kernel_rfl
/-- A row of bytes that is being made. -/
def GrowB (B : Nat) (w0 w : World) (v : Value) (l : List Nat) : Prop := RowIn w (From B) 5 1 v l.length (nums .u8 l) ∧ Below B w0 w ∧ B ≤ w.heap.size
theorem GrowB.below {B : Nat} {w0 w w' : World} {v : Value} {l : List Nat} (h : GrowB B w0 w v l) (hb : Below w.heap.size w w') : GrowB B w0 w' v l :=
  ⟨RowIn.keep h.1 fun b hl _ => hb.block b hl, h.2.1.trans (hb.mono h.2.2), Nat.le_trans h.2.2 hb.size⟩
theorem GrowB.push {B : Nat} {w0 w w' : World} {v v' : Value} {l : List Nat} {x : Nat} {o : Obj} (h : GrowB B w0 w v l) (ho : w'.ownsRow 0 5 1 v' (l.length + 1) (nums .u8 l ++ [.int .u8 (x : Int)])) (hg : (w.alloc o).grownBy w' v.ownBlock)
    (hat : v'.ownBlock = v.ownBlock ∨ v'.ownBlock = some (w.alloc o).heap.size) : GrowB B w0 w' v' (l ++ [x]) := by
  obtain ⟨h1, h2, h3⟩ := h
  have hba : Below B w0 (w.alloc o) := h2.alloc h3 _
  refine ⟨⟨?_, fun g hgv => ?_⟩, hba.grown hg (by simp; omega) (fun g hg' => h1.2 g hg'), by have := hg.size; simp at this; omega⟩
  · rw [← nums_snoc, List.length_append]
    exact ho
  · rcases hat with hh | hh
    · exact h1.2 g (hh.symm.trans hgv)
    · rw [hh] at hgv
      have := Option.some.inj hgv
      simp at this
      show B ≤ g
      omega
def byteAt (x i : Nat) : Nat := x / 256 ^ i % 256
def bytesTo (x i : Nat) : List Nat := (List.range i).map (byteAt x)
theorem bytesTo_more (x i : Nat) : bytesTo x (i + 1) = bytesTo x i ++ [byteAt x i] := by unfold bytesTo; rw [List.range_succ, List.map_append]; rfl
theorem shr_byte (x i : Nat) : IntKind.u8.wrap ((x : Int) / 2 ^ (8 * i)) = ((byteAt x i : Nat) : Int) := by
  have e1 : ((x : Int) / 2 ^ (8 * i)) = ((x / 2 ^ (8 * i) : Nat) : Int) := by simp
  have h2 : (256 : Nat) ^ i = 2 ^ (8 * i) := by rw [Nat.pow_mul]
  unfold byteAt
  rw [h2, e1]
  generalize x / 2 ^ (8 * i) = y
  rw [IntKind.wrap_u8]
  omega
theorem byte_src (w : World) (x : Nat) : ∀ t u, [Value.int IntKind.u8 (x : Int)][t]? = some u → (w.alloc (.cells #[.int .u8 (x : Int)] 5)).cell? ((⟨w.heap.size, 0, none⟩ : Addr).add t) = some u := cell_one_new _ _ _
theorem byte_one (x : Nat) : ∀ u ∈ [Value.int IntKind.u8 (x : Int)], u.oneCell' = true := by intro u hu; obtain rfl : u = Value.int IntKind.u8 (x : Int) := (by simpa using hu); rfl
def UnpackIs (B : Nat) (w0 : World) (l : List Nat) (x : Nat) (e : Ending) (w' : World) : Prop := ∃ v, e = .returned v ∧ GrowB B w0 w' v (l ++ bytesTo x 8)
set_option maxHeartbeats 2000000 in
set_option maxRecDepth 100000 in
theorem unpack_any (B : Nat) (w0 w : World) (v : Value) (l : List Nat) (x : Nat) (h : GrowB B w0 w v l) (hl : l.length ≤ 1000000) :
    Calls Tryz.prog 59 #[v, .int .u64 (x : Int)] w (UnpackIs B w0 l x) := by
  obtain ⟨i0, hi0, hz0, hz1, hz2⟩ := info_parts infoByte
  obtain ⟨A, c, rfl, hvw⟩ := h.1.view
  have HG0 : Hid (GrowB B w0 w (.slice A l.length c) (l ++ bytesTo x 0)) := Lib.hid (by
    have : l ++ bytesTo x 0 = l := by simp [bytesTo]
    rw [this]; exact h)
  clear h hvw
  go_enter Tryz.func59, Tryz.ntmps59
  go_wp2_with fail
  go_loopw [6, 0] (fun vi vt wr => ∃ (i : Nat) (v : Value), i ≤ 8 ∧ vi = .int .i64 i ∧ v = vt ∧ Hid (GrowB B w0 wr v (l ++ bytesTo x i))) (fun vi _ _ => 8 - (intOf vi).toNat)
  case atStart => exact ⟨0, _, by omega, by go_num, rfl, HG0⟩
  case round =>
    obtain ⟨i, vv, hi, rfl, rfl, HG⟩ := hrel
    clear HG0
    by_cases hil : i < 8
    · have g2 : decide ((i : Int) < 8) = true := decide_eq_true (by omega)
      have g2' : decide (i < 8) = true := decide_eq_true hil
      have E1 := shr_byte x i
      have hlen : (l ++ bytesTo x i).length = l.length + i := by simp [bytesTo]
      have hmore : l ++ bytesTo x (i + 1) = (l ++ bytesTo x i) ++ [byteAt x i] := by rw [bytesTo_more, List.append_assoc]
      have HMO := Lib.hid hmore
      have HLE := Lib.hid hlen
      have hlb : (l ++ bytesTo x i).length ≤ 1000008 := by omega
      clear hmore hlen
      generalize byteAt x i = y at *
      generalize l ++ bytesTo x i = k at *
      have hown : Hid ((wr.alloc (.cells #[.int .u8 (y : Int)] 5)).ownsRow 0 5 1 vv k.length (nums .u8 k)) := Lib.hid (HG.out.1.1.alloc _)
      have hsrc := Lib.hid (byte_src wr y)
      have hone := Lib.hid (byte_one y)
      clear HLE
      go_wp2_with (at_builtin; refine wpList_append_own_at _ rfl (.tmp 9) (.tmp 15) 90 rfl 0 5 i0 _ 1 1 Tryz.underlying90 hi0 hz0 hz1 hz2 rfl (by decide) _ _ _ rfl hown.out ⟨wr.heap.size, 0, none⟩ 1 1 [.int .u8 (y : Int)] rfl rfl hsrc.out hone.out (by unfold maxLen; omega) (by omega) (Nat.zero_le _) ?_)
      intro v1 w6 hown1 hgr1 hnn1 hat1
      have HN : Hid (GrowB B w0 w6 v1 (l ++ bytesTo x (i + 1))) := Lib.hid (by
        rw [HMO.out]
        exact HG.out.push hown1 hgr1 (by simpa using hat1))
      clear hown1 hgr1 hnn1 hat1 hown hsrc hone
      go_wp2_with fail
      go_roundw
      case rel => exact ⟨i + 1, _, by omega, by go_num, rfl, HN⟩
      case measure => simp [intOf]; omega
    · have g2 : decide ((i : Int) < 8) = false := decide_eq_false (by omega)
      have g2' : decide (i < 8) = false := decide_eq_false hil
      obtain rfl : i = 8 := by omega
      go_wp2_with fail
      go_ret
      exact ⟨_, rfl, HG.out⟩
/-- n brought into 63 bits. -/
def W63 (n : Int) : Int := (n + 4611686018427387904) % 9223372036854775808 - 4611686018427387904
/-- wrapped as 64 bits without a sign -/
def U64 (n : Int) : Int := n % 18446744073709551616
/-- the word of a number -/
def WOf (n : Int) : Int := U64 (2 * W63 n + 1)
def WNum (w : Int) : Int := if w / 2 < 4611686018427387904 then w / 2 else w / 2 - 9223372036854775808
def WRef (a : Int) : Int := if a < 0 ∨ 2147483647 < a then 0 else 2 * a
def WAddr (w : Int) : Int := if w % 2 = 1 ∨ 2147483647 < w / 2 then 0 else w / 2
def WIs (w : Int) : Bool := decide (w % 2 = 1)

theorem w63_lo (n : Int) : -4611686018427387904 ≤ W63 n := by unfold W63; omega
theorem w63_hi (n : Int) : W63 n ≤ 4611686018427387903 := by unfold W63; omega
theorem w63_shl (n : Int) : wrap64 (n * 2) / 2 = W63 n := by unfold W63 wrap64; omega
theorem w63_above (n : Int) (h : n ≤ 9223372036854775807) (h1 : 4611686018427387903 < n) : n - 4611686018427387903 - 4611686018427387903 - 2 = W63 n := by
  unfold W63; omega
theorem w63_below (n : Int) (h : -9223372036854775808 ≤ n) (h1 : n < -4611686018427387904) : n + 4611686018427387903 + 4611686018427387903 + 2 = W63 n := by
  unfold W63; omega
theorem w63_in (n : Int) (h : -4611686018427387904 ≤ n) (h1 : n ≤ 4611686018427387903) : W63 n = n := by unfold W63; omega
theorem w63_idem (n : Int) : W63 (W63 n) = W63 n := w63_in _ (w63_lo n) (w63_hi n)
theorem w63_wrap64 (n : Int) : W63 (wrap64 n) = W63 n := by unfold W63 wrap64; omega
theorem wof_lo (n : Int) : 0 ≤ WOf n := by unfold WOf U64; omega
theorem wof_hi (n : Int) : WOf n ≤ 18446744073709551615 := by unfold WOf U64; omega
theorem wnum_of (n : Int) : WNum (WOf n) = W63 n := by
  have h1 := w63_lo n
  have h2 := w63_hi n
  unfold WNum WOf U64
  split <;> omega
theorem wis_of (n : Int) : WIs (WOf n) = true := by
  unfold WIs WOf U64
  simp only [decide_eq_true_eq]
  omega
theorem wref_lo (a : Int) : 0 ≤ WRef a := by unfold WRef; split <;> omega
theorem wref_hi (a : Int) : WRef a ≤ 18446744073709551615 := by unfold WRef; split <;> omega
theorem waddr_ref (a : Int) (h0 : 0 ≤ a) (h1 : a ≤ 2147483647) : WAddr (WRef a) = a := by
  unfold WAddr WRef
  rw [if_neg (by omega)]
  rw [if_neg (by omega)]
  omega
theorem wis_ref (a : Int) : WIs (WRef a) = false := by
  unfold WIs WRef
  simp only [decide_eq_false_iff_not]
  split <;> omega
theorem u64_wrap (n : Int) : IntKind.u64.wrap n = n % 18446744073709551616 := by simp [IntKind.wrap, IntKind.bits, IntKind.signed]
theorem wraps_u64 (n : Int) (h0 : 0 ≤ n) (h1 : n < 2 ^ 64) : IntKind.u64.wrap n = n := by rw [u64_wrap]; omega
theorem or_one_u64 (x : Int) (h0 : 0 ≤ x) (h1 : x ≤ 18446744073709551615) (hx : x % 2 = 0) : bits BinOp.or IntKind.u64 x 1 = x + 1 :=
  bits_join .u64 64 (by decide) wraps_u64 1 x 1 h0 (by omega) (by omega) (by omega) (by omega) (by omega)
theorem wof_bits (n : Int) : bits BinOp.or IntKind.u64 (IntKind.u64.wrap (IntKind.u64.wrap n * 2)) 1 = WOf n := by
  rw [u64_wrap, u64_wrap, or_one_u64 _ (by omega) (by omega) (by omega)]
  unfold WOf U64 W63
  omega
theorem wof_sum (n : Int) : IntKind.u64.wrap (IntKind.u64.wrap (IntKind.u64.wrap (W63 n) * 2) + 1) = WOf n := by
  rw [u64_wrap, u64_wrap, u64_wrap]
  unfold WOf U64 W63
  omega
theorem wnum_half (n : Int) (h0 : 0 ≤ n) (h1 : n ≤ 18446744073709551615) : wrap64 n / 2 = WNum n := by
  unfold WNum wrap64
  split <;> omega
theorem wis_and (n : Int) (h0 : 0 ≤ n) (h1 : n ≤ 18446744073709551615) : (bits BinOp.and IntKind.u64 n 1 == 1) = WIs n := by
  rw [and_one_u64 n h0 h1]
  unfold WIs
  rw [Bool.eq_iff_iff]
  simp
theorem wis_rem (n : Int) : (n % 2 == 1) = WIs n := by
  unfold WIs
  rw [Bool.eq_iff_iff]
  simp
set_option maxHeartbeats 400000 in
theorem word_Of (n : Int) (w : World) : Calls Tryz.prog 49 #[.int .i64 n] w fun e w' => e = .returned (.int .u64 (WOf n)) ∧ w = w' := by
  go_enter Tryz.func49, Tryz.ntmps49
  go_wp2
  go_ret
  exact ⟨ret_int (wof_bits n), rfl⟩
set_option maxHeartbeats 400000 in
theorem word_Num (n : Int) (w : World) (h0 : 0 ≤ n) (h1 : n ≤ 18446744073709551615) : Calls Tryz.prog 57 #[.int .u64 n] w fun e w' => e = .returned (.int .i64 (WNum n)) ∧ w = w' := by
  go_enter Tryz.func57, Tryz.ntmps57
  go_wp2
  go_ret
  exact ⟨ret_int (wnum_half n h0 h1), rfl⟩
set_option maxHeartbeats 400000 in
theorem word_IsNum (n : Int) (w : World) (h0 : 0 ≤ n) (h1 : n ≤ 18446744073709551615) : Calls Tryz.prog 58 #[.int .u64 n] w fun e w' => e = .returned (.bool (WIs n)) ∧ w = w' := by
  go_enter Tryz.func58, Tryz.ntmps58
  go_wp2
  go_ret
  exact ⟨ret_bool (wis_and n h0 h1), rfl⟩
/-- The bytes of all words but the first, up to the i-th. -/
def textTo (fs : List Nat) (i : Nat) : List Nat := ((fs.drop 1).take (i - 1)).flatMap fun x => bytesTo x 8
theorem textTo_one (fs : List Nat) : textTo fs 1 = [] := by simp [textTo]
theorem textTo_more {fs : List Nat} {i : Nat} (h0 : 1 ≤ i) (h : i < fs.length) : textTo fs (i + 1) = textTo fs i ++ bytesTo (fs.getD i 0) 8 := by
  unfold textTo
  have h1 : (fs.drop 1).take (i + 1 - 1) = (fs.drop 1).take (i - 1) ++ [fs.getD i 0] := by
    have h2 : (fs.drop 1).length = fs.length - 1 := by simp
    rw [show i + 1 - 1 = (i - 1) + 1 by omega, take_snoc_get (by omega)]
    congr 2
    rw [List.getD_eq_getElem?_getD, List.getD_eq_getElem?_getD, List.getElem?_drop, show 1 + (i - 1) = i by omega]
  rw [h1, List.flatMap_append]
  simp
theorem bytesTo_len (x i : Nat) : (bytesTo x i).length = i := by simp [bytesTo]
theorem textTo_len (fs : List Nat) (i : Nat) (h0 : 1 ≤ i) (h : i ≤ fs.length) : (textTo fs i).length = 8 * (i - 1) := by
  induction i with
  | zero => omega
  | succ i ih =>
    by_cases hi : i = 0
    · subst hi; simp [textTo]
    · rw [textTo_more (by omega) (by omega), List.length_append, ih (by omega) (by omega), bytesTo_len]
      omega
def strOf (l : List Nat) : ByteArray := strOfNums (l.map fun (n : Nat) => (n : Int))
/-- A text's bytes, and what is wrong with it. -/
def strV (L : List Ob) (a : Nat) : List Nat × Int :=
  match findOb L a with
  | none => ([], 7)
  | some o => if o.kind = 0 then ([], 7) else if o.kind ≠ 1 then ([], 8) else
    if WIs (o.fs.getD 0 0 : Nat) = false ∨ WNum (o.fs.getD 0 0 : Nat) < 0 ∨ fieldsOf (WNum (o.fs.getD 0 0 : Nat)).toNat ≠ o.fs.length then ([], 5)
    else ((textTo o.fs o.fs.length).take (WNum (o.fs.getD 0 0 : Nat)).toNat, 0)
theorem make_bytes (n : Nat) (hn : n ≤ 1000000) (W : World) : (Instr.makeSlice 90 (.int .i64 0) (.int .i64 (n : Int))).run Tryz.prog W = .ok (.slice (some ⟨W.heap.size, 0, none⟩) 0 n) (W.alloc (.cells (zerosC n) 5)) := by
  obtain ⟨i0, hi0, hz0, hz1, hz2⟩ := info_parts infoByte
  have h := run_make_rowN (P := Tryz.prog) 90 5 i0 _ Tryz.underlying90 hi0 hz0 .i64 .i64 0 n (Nat.zero_le _) (by rw [hz2]; omega) (by omega) W
  rw [hz1, Nat.mul_one] at h
  exact h
theorem grow_made {w wr : World} (n : Nat) (hn : n ≤ 1000000) (hb : Below w.heap.size w wr) : GrowB w.heap.size w (wr.alloc (.cells (zerosC n) 5)) (.slice (some ⟨wr.heap.size, 0, none⟩) 0 n) [] := by
  have hz : (zerosC n).size = n := by rw [← Array.length_toList, zerosC_list, nums_len, List.length_replicate]
  refine ⟨⟨⟨rfl, .inr ⟨wr.heap.size, n, zerosC n, rfl, Nat.zero_le _, heap_alloc_new wr _, Nat.zero_le _, by unfold maxLen; omega, by rw [hz]; omega, rfl⟩⟩, fun b hx => ?_⟩, hb.alloc hb.size _, by have := hb.size; simp; omega⟩
  have hx : wr.heap.size = b := Option.some.inj hx
  have := hb.size
  show w.heap.size ≤ b
  omega
theorem GrowB.form {B : Nat} {w0 w : World} {v : Value} {l : List Nat} (h : GrowB B w0 w v l) (hl : 0 < l.length) : ∃ g c, v = .slice (some ⟨g, 0, none⟩) l.length c := by
  rcases h.1.1.2 with ⟨_, h0⟩ | ⟨g, c, _, he, _⟩
  · omega
  · exact ⟨g, c, he⟩
theorem conv_bytes {B : Nat} {w0 w : World} {g c : Nat} {l : List Nat} (h : GrowB B w0 w (.slice (some ⟨g, 0, none⟩) l.length c) l) (n k : Nat) (hn : n ≤ l.length) : (convert 90 9 (.slice (some ⟨g, 0, none⟩) n k)).run Tryz.prog w = .ok (.string (strOf (l.take n))) w := by
  have h1 := run_convert_bytes_arg (P := Tryz.prog) w 90 5 Tryz.underlying90 Tryz.underlying5 g 0 n k ((l.take n).map fun (n : Nat) => (n : Int)) (by simp; omega) (fun i hi => by
    rw [Nat.zero_add, World.ownsRow.cellAt h.1.1 i (by omega)]
    have h2 : (nums .u8 l)[i]? = some (.int .u8 (l.getD i 0 : Nat)) := by
      unfold nums
      rw [List.getElem?_map, List.getD_eq_getElem?_getD, List.getElem?_eq_getElem (by omega)]; rfl
    rw [h2]
    simp only [List.getD_eq_getElem?_getD, List.getElem?_map, List.getElem?_take, if_pos hi]
    rw [List.getElem?_eq_getElem (show i < l.length by omega)]
    rfl) 9 Tryz.underlying9
  exact h1
def StrIs (q : List Nat × Int) (w : World) (e : Ending) (w' : World) : Prop := e = .returned (.tuple #[.string (strOf q.1), .int .i64 q.2]) ∧ Below w.heap.size w w'
theorem strOf_nil : strOf [] = ⟨#[]⟩ := rfl
set_option maxHeartbeats 4000000 in
set_option maxRecDepth 100000 in
theorem st_String (F : Nat → Prop) (p g q m : Nat) (x : SS) (w : World) (h : SIn F w p g q m x) (v : Nat) (hv : v < 18446744073709551616) :
    Calls Tryz.prog 23 #[.pointer (some ⟨p, 0, none⟩), .int .u64 (v : Int)] w (StrIs (strV x.s.L (addrW v)) w) := by
  have H := Lib.hid h
  have HKD := Lib.hid (fun W (hW : SIn F W p g q m x) => st_Kind F p g q m x W hW v hv)
  cases hf : findOb x.s.L (addrW v) with
  | none =>
    have HV : Hid (strV x.s.L (addrW v) = ([], 7)) := Lib.hid (by unfold strV; rw [hf])
    have hk := HKD.out w h
    rw [hKind_no (.inr (by rw [Int.toNat_natCast]; exact hf))] at hk
    have HK := Lib.hid hk
    clear h hf hk HKD H
    go_enter Tryz.func23, Tryz.ntmps23
    go_wp2_with fail
    refine HK.out.mono ?_
    rintro e w1 ⟨rfl, hb⟩
    have HB := Lib.hid hb
    clear hb
    go_wp2_with fail
    go_ret2
    exact ⟨by rw [HV.out]; rfl, HB.out⟩
  | some o =>
    have hk := HKD.out w h
    rw [hKind_at hf] at hk
    have HK := Lib.hid hk
    have hv1 : strV x.s.L (addrW v) = if o.kind = 0 then ([], 7) else if o.kind ≠ 1 then ([], 8) else
      if WIs (o.fs.getD 0 0 : Nat) = false ∨ WNum (o.fs.getD 0 0 : Nat) < 0 ∨ fieldsOf (WNum (o.fs.getD 0 0 : Nat)).toNat ≠ o.fs.length then ([], 5)
      else ((textTo o.fs o.fs.length).take (WNum (o.fs.getD 0 0 : Nat)).toNat, 0) := by unfold strV; rw [hf]
    clear hk HKD
    by_cases hk0 : o.kind = 0
    · have HV : Hid (strV x.s.L (addrW v) = ([], 7)) := Lib.hid (by rw [hv1, if_pos hk0])
      have B1 : ((o.kind : Int) == 0) = true := by rw [beq_iff_eq]; omega
      clear h hf hv1 hk0 H
      go_enter Tryz.func23, Tryz.ntmps23
      go_wp2_with fail
      refine HK.out.mono ?_
      rintro e w1 ⟨rfl, hb⟩
      have HB := Lib.hid hb
      clear hb
      go_wp2_with fail
      go_ret2
      exact ⟨by rw [HV.out]; rfl, HB.out⟩
    rw [if_neg hk0] at hv1
    have B1 : ((o.kind : Int) == 0) = false := by rw [beq_eq_false_iff_ne]; omega
    by_cases hk1 : o.kind = 1
    · rw [if_neg (by omega)] at hv1
      have B2 : ((o.kind : Int) != 1) = false := by rw [hk1]; rfl
      have hsm : o.fs.getD 0 0 < 18446744073709551616 := by
        obtain ⟨S, hS⟩ := h.1.heap
        by_cases h0 : 0 < o.fs.length
        · rw [List.getD_eq_getElem?_getD, List.getElem?_eq_getElem h0]
          exact hS.vals o (find_mem hf).1 _ (List.getElem_mem h0)
        · rw [List.getD_eq_getElem?_getD, List.getElem?_eq_none (by omega)]; decide
      have hofl := lies_fields h.inv.lies h.few o (find_mem hf).1
      have HGE := Lib.hid (fun (i : Nat) W (hW : SIn F W p g q m x) => st_Get F p g q m x W hW v hv i)
      have HGX : Hid (∀ i : Nat, i < o.fs.length → hGet x.s.L (addrW v : Nat) (i : Int) = (o.fs.getD i 0, 0)) := Lib.hid (fun i hi => by rw [hGet_at (i : Int) hf, if_neg (by omega), Int.toNat_natCast])
      have HG0 : Hid (∃ er : Int, hGet x.s.L (addrW v : Nat) 0 = (o.fs.getD 0 0, er)) := Lib.hid (by
        rw [hGet_at 0 hf]
        split
        · rename_i h0
          exact ⟨2, by rw [List.getD_eq_getElem?_getD, List.getElem?_eq_none (by omega)]; rfl⟩
        · exact ⟨0, rfl⟩)
      have HSZ := Lib.hid (fun W (hW : SIn F W p g q m x) => by
        have h9 := st_Size F p g q m x W hW v hv
        rw [hSize_at hf] at h9
        exact h9)
      have HBY : Hid (∀ i : Nat, i < o.fs.length → o.fs.getD i 0 < 18446744073709551616) := Lib.hid (fun i hi => by
        obtain ⟨S, hS⟩ := h.1.heap
        rw [List.getD_eq_getElem?_getD, List.getElem?_eq_getElem hi]
        exact hS.vals o (find_mem hf).1 _ (List.getElem_mem hi))
      obtain ⟨er, hg0⟩ := HG0.out
      have hget0 := HGE.out 0
      have HGT0 : Hid (∀ W, SIn F W p g q m x → Calls Tryz.prog 13 #[.pointer (some ⟨p, 0, none⟩), .int .u64 (v : Int), .int .i64 0] W (SLook (.tuple #[.int .u64 ((o.fs.getD 0 0 : Nat) : Int), .int .i64 er]) W)) := Lib.hid (fun W hW => by
        have h9 := hget0 W hW
        rw [show ((0 : Nat) : Int) = 0 from rfl, hg0] at h9
        exact h9)
      have HGI : Hid (∀ (i : Nat) W, i < o.fs.length → SIn F W p g q m x → Calls Tryz.prog 13 #[.pointer (some ⟨p, 0, none⟩), .int .u64 (v : Int), .int .i64 (i : Int)] W (SLook (.tuple #[.int .u64 ((o.fs.getD i 0 : Nat) : Int), .int .i64 0]) W)) := Lib.hid (fun i W hi hW => by
        have h9 := HGE.out i W hW
        rw [HGX.out i hi] at h9
        exact h9)
      have HNU := Lib.hid (fun W => word_Num (o.fs.getD 0 0 : Nat) W (by omega) (by omega))
      have HIS := Lib.hid (fun W => word_IsNum (o.fs.getD 0 0 : Nat) W (by omega) (by omega))
      have hnb : -4611686018427387904 ≤ WNum (o.fs.getD 0 0 : Nat) ∧ WNum (o.fs.getD 0 0 : Nat) ≤ 4611686018427387903 := by unfold WNum; split <;> omega
      have HV1 := Lib.hid hv1
      clear h hf hv1 hk0 hk1 HGE HGX HG0 hg0 hget0 hsm
      generalize WNum (o.fs.getD 0 0 : Nat) = n at *
      generalize WIs (o.fs.getD 0 0 : Nat) = bi at *
      generalize hc0 : o.fs.getD 0 0 = c0 at *
      clear hc0
      go_enter Tryz.func23, Tryz.ntmps23
      go_wp2_with fail
      refine HK.out.mono ?_
      rintro e w1 ⟨rfl, hb1⟩
      have HB1 := Lib.hid hb1
      clear hb1
      go_wp2_with fail
      refine (HGT0.out w1 (H.out.below HB1.out)).mono ?_
      rintro e w2 ⟨rfl, hb2⟩
      have HB2 := Lib.hid (HB1.out.trans (hb2.mono HB1.out.size))
      clear hb2 HB1
      go_wp2_with fail
      refine (HNU.out w2).mono ?_
      rintro e w' ⟨rfl, rfl⟩
      go_wp2_with fail
      refine (HSZ.out w2 (H.out.below HB2.out)).mono ?_
      rintro e w3 ⟨rfl, hb3⟩
      have HB3 := Lib.hid (HB2.out.trans (hb3.mono HB2.out.size))
      clear hb3 HB2
      go_wp2_with fail
      refine (HIS.out w3).mono ?_
      rintro e w' ⟨rfl, rfl⟩
      cases bi with
      | false =>
        have HV : Hid (strV x.s.L (addrW v) = ([], 5)) := Lib.hid (by rw [HV1.out, if_pos (.inl rfl)])
        go_wp2_with fail
        go_ret2
        exact ⟨by rw [HV.out]; rfl, HB3.out⟩
      | true =>
        by_cases hn0 : n < 0
        · have C1 : decide (n < 0) = true := decide_eq_true hn0
          have HV : Hid (strV x.s.L (addrW v) = ([], 5)) := Lib.hid (by rw [HV1.out, if_pos (.inr (.inl hn0))])
          clear hn0
          go_wp2_with fail
          go_ret2
          exact ⟨by rw [HV.out]; rfl, HB3.out⟩
        · obtain ⟨N, rfl⟩ := Int.eq_ofNat_of_zero_le (show 0 ≤ n by omega)
          have C1 : decide ((N : Int) < 0) = false := decide_eq_false (by omega)
          have HFF := Lib.hid (fieldsFor_any N (by omega) w3)
          have hv2 := HV1.out
          rw [Int.toNat_natCast] at hv2
          by_cases hfo : fieldsOf N = o.fs.length
          · rw [if_neg (by
              rintro (hx | hx | hx)
              · cases hx
              · omega
              · exact hx hfo)] at hv2
            have hl1 : 1 ≤ o.fs.length := by rw [← hfo]; unfold fieldsOf; omega
            have hN : N ≤ 8 * (o.fs.length - 1) := by rw [← hfo]; unfold fieldsOf; omega
            rw [hfo] at HFF
            have HV := Lib.hid hv2
            have C2 : ((o.fs.length : Int) != (o.fs.length : Int)) = false := by simp
            have hmk := make_bytes (8 * o.fs.length) (by omega) w3
            rw [show ((8 * o.fs.length : Nat) : Int) = 8 * (o.fs.length : Int) by omega] at hmk
            have HG0 : Hid (GrowB w.heap.size w (w3.alloc (.cells (zerosC (8 * o.fs.length)) 5)) (.slice (some ⟨w3.heap.size, 0, none⟩) (textTo o.fs 1).length (8 * o.fs.length)) (textTo o.fs 1)) := Lib.hid (by
              rw [textTo_one]
              exact grow_made (8 * o.fs.length) (by omega) HB3.out)
            have hl0 : 0 = (textTo o.fs 1).length := by rw [textTo_one]; rfl
            have HL0 := Lib.hid hl0
            have e8 : IntKind.i64.wrap (8 * (o.fs.length : Int)) = 8 * (o.fs.length : Int) := by rw [IntKind.wrap_i64]; omega
            clear hv2 hfo HV1 hl0
            go_wp2_with fail
            refine HFF.out.mono ?_
            rintro e w' ⟨rfl, rfl⟩
            generalize zerosC (8 * o.fs.length) = Z at *
            go_wp2_with fail
            clear hmk e8 C2
            go_loopw [12, 11] (fun vi vt wr => ∃ i g c : Nat, 1 ≤ i ∧ i ≤ o.fs.length ∧ vi = .int .i64 i ∧ vt = .slice (some ⟨g, 0, none⟩) (textTo o.fs i).length c ∧ Hid (GrowB w.heap.size w wr (.slice (some ⟨g, 0, none⟩) (textTo o.fs i).length c) (textTo o.fs i))) (fun vi _ _ => o.fs.length - (intOf vi).toNat)
            case atStart => exact ⟨1, _, _, by omega, by omega, by go_num, by rw [← HL0.out], HG0⟩
            case round =>
              obtain ⟨i, g1, c1, hi1, hi2, rfl, rfl, HG⟩ := hrel
              clear HG0
              by_cases hil : i < o.fs.length
              · have g2 : decide ((i : Int) < (o.fs.length : Int)) = true := decide_eq_true (by omega)
                have g2' : decide (i < o.fs.length) = true := decide_eq_true hil
                have HGT := Lib.hid (HGI.out i wr hil (H.out.below HG.out.2.1))
                have HTM := Lib.hid (textTo_more hi1 hil)
                have htl := textTo_len o.fs i hi1 (by omega)
                have HUP := Lib.hid (fun W (hW : Below wr.heap.size wr W) => unpack_any w.heap.size w W _ (textTo o.fs i) (o.fs.getD i 0) (HG.out.below hW) (by omega))
                have hpos : 0 < (textTo o.fs (i + 1)).length := by rw [textTo_len o.fs (i + 1) (by omega) (by omega)]; omega
                have HPO := Lib.hid hpos
                clear htl hpos
                generalize o.fs.getD i 0 = y at *
                go_wp2_with fail
                refine HGT.out.mono ?_
                rintro e w4 ⟨rfl, hb4⟩
                have HU4 := Lib.hid (HUP.out w4 hb4)
                clear hb4
                go_wp2_with fail
                refine HU4.out.mono ?_
                rintro e w5 ⟨v5, rfl, hg5⟩
                rw [← HTM.out] at hg5
                obtain ⟨g5, c5, rfl⟩ := hg5.form HPO.out
                have HN := Lib.hid hg5
                clear hg5
                go_wp2_with fail
                go_roundw
                case rel => exact ⟨i + 1, g5, c5, by omega, by omega, by go_num, rfl, HN⟩
                case measure => simp [intOf]; omega
              · have g2 : decide ((i : Int) < (o.fs.length : Int)) = false := decide_eq_false (by omega)
                have g2' : decide (i < o.fs.length) = false := decide_eq_false hil
                obtain rfl : i = o.fs.length := by omega
                have htl := textTo_len o.fs o.fs.length hl1 (Nat.le_refl _)
                have hcap : (textTo o.fs o.fs.length).length ≤ c1 := by
                  rcases HG.out.1.1.2 with ⟨h9, _⟩ | ⟨g', k', cur, h9, hr⟩
                  · cases h9
                  · simp only [Value.slice.injEq] at h9
                    rw [h9.2.2]
                    exact hr.2.2.1
                have hcv := conv_bytes HG.out N c1 (by omega)
                have HB5 := Lib.hid HG.out.2.1
                have q1 : (0 : Int) ≤ (N : Int) := by omega
                have q2 : (N : Int) ≤ (c1 : Int) := by omega
                have q3 : N ≤ c1 := by omega
                generalize textTo o.fs o.fs.length = l1 at *
                clear HG htl hcap
                go_wp2_with fail
                go_ret2
                exact ⟨by rw [HV.out]; rfl, HB5.out⟩
          · have C2 : (((fieldsOf N : Nat) : Int) != (o.fs.length : Int)) = true := by rw [bne_iff_ne]; omega
            rw [if_pos (.inr (.inr hfo))] at hv2
            have HV := Lib.hid hv2
            clear hv2 HV1 hfo
            go_wp2_with fail
            refine HFF.out.mono ?_
            rintro e w' ⟨rfl, rfl⟩
            go_wp2_with fail
            go_ret2
            exact ⟨by rw [HV.out]; rfl, HB3.out⟩
    · rw [if_pos hk1] at hv1
      have HV := Lib.hid hv1
      have B2 : ((o.kind : Int) != 1) = true := by rw [bne_iff_ne]; omega
      clear h hf hv1 hk0 hk1 H
      go_enter Tryz.func23, Tryz.ntmps23
      go_wp2_with fail
      refine HK.out.mono ?_
      rintro e w1 ⟨rfl, hb⟩
      have HB := Lib.hid hb
      clear hb
      go_wp2_with fail
      go_ret2
      exact ⟨by rw [HV.out]; rfl, HB.out⟩
theorem GInv.done {m : Nat} {s : GS} (h : GInv m s) : GInv m s.done := by
  unfold GS.done
  split
  · exact h.run _
  · exact h
theorem salloc_cases {m : Nat} {x : SS} (h : GInv m x.s) (kd n : Int) (xs : List Nat) : (∃ (e : Int) (y : SS), e ≠ 0 ∧ GInv m y.s ∧ x.alloc m kd n xs = (0, e, y)) ∨
    ∃ (a kk nn : Nat) (y : SS), kd = (kk : Int) ∧ n = (nn : Int) ∧ a < m ∧ GInv m y.s ∧ findOb y.s.L a = some (newOb a kk nn) ∧ x.alloc m kd n xs = (2 * a, 0, y) := by
  have key : ∀ z : SS, GInv m z.s → (∃ (e : Int), e ≠ 0 ∧ z.s.alloc m kd n = (0, e, z.s)) ∨ ∃ (a kk nn : Nat) (t : GS), kd = (kk : Int) ∧ n = (nn : Int) ∧ a < m ∧ GInv m t ∧ findOb t.L a = some (newOb a kk nn) ∧ z.s.alloc m kd n = ((a : Int), 0, t) := fun z hz => by
    rcases alloc_facts kd n hz.lies with ⟨e, he, ha⟩ | ⟨a, kk, nn, L', ha, h1, h2, _, _, hl, hn, hf, _⟩
    · exact .inl ⟨e, he, by unfold GS.alloc; rw [ha, if_neg he]⟩
    · have hin : IsIn L' a := by unfold IsIn; rw [hf, if_pos rfl]; rfl
      exact .inr ⟨a, kk, nn, z.s.laid L' a, h1, h2, (isIn_range hl hin).2, hz.laid hl hn hf, by show findOb L' a = _; rw [hf, if_pos rfl], by unfold GS.alloc; rw [ha, if_pos rfl]; rfl⟩
  have hput : ∀ z : SS, GInv m z.s → (∃ (e : Int) (y : SS), e ≠ 0 ∧ GInv m y.s ∧ z.put (z.s.alloc m kd n) = (0, e, y)) ∨
    ∃ (a kk nn : Nat) (y : SS), kd = (kk : Int) ∧ n = (nn : Int) ∧ a < m ∧ GInv m y.s ∧ findOb y.s.L a = some (newOb a kk nn) ∧ z.put (z.s.alloc m kd n) = (2 * a, 0, y) := fun z hz => by
    rcases key z hz with ⟨e, he, ha⟩ | ⟨a, kk, nn, t, h1, h2, h3, h4, h5, ha⟩
    · exact .inl ⟨e, ⟨z.s, z.cy⟩, he, hz, by rw [ha]; unfold SS.put; rw [if_neg he]⟩
    · exact .inr ⟨a, kk, nn, ⟨t, z.cy⟩, h1, h2, h3, h4, h5, by rw [ha]; unfold SS.put; rw [if_pos rfl]; rfl⟩
  have hsec : GInv m (x.second m kd n).s := GInv.done (h.alloc kd n)
  have hthi : GInv m ((x.second m kd n).third m kd n xs).s := GInv.done ((hsec.alloc kd n).begin xs)
  unfold SS.alloc
  split
  · split
    · exact hput _ hthi
    · exact hput _ hsec
  · exact hput _ h
/-- The fields of a text's object. -/
def textW (l : List UInt8) (i : Nat) : Nat := if i = 0 then 2 * l.length + 1 else packL ((l.drop (8 * (i - 1))).take 8)
def layTo (L : List Ob) (a : Nat) (f : Nat → Nat) : Nat → List Ob
  | 0 => L
  | i + 1 => setOb (layTo L a f i) a i (f i)
theorem layTo_find {L : List Ob} {a kk nn : Nat} (f : Nat → Nat) (h : findOb L a = some (newOb a kk nn)) (i : Nat) (hi : i ≤ nn) : ∃ o, findOb (layTo L a f i) a = some o ∧ o.kind = kk ∧ o.fs.length = nn ∧ o.at_ = a := by
  induction i with
  | zero => exact ⟨_, h, rfl, by simp [newOb], rfl⟩
  | succ i ih =>
    obtain ⟨o, h1, h2, h3, h4⟩ := ih (by omega)
    refine ⟨o.put i (f i), ?_, h2, by simp [Ob.put, h3], h4⟩
    show findOb (setOb _ a i (f i)) a = _
    rw [find_set, if_pos rfl, h1]; rfl
/-- A text's field is set: no barrier. -/
theorem write_text {s : GS} {a i : Nat} {o : Ob} (y : Nat) (ho : findOb s.L a = some o) (hk : o.kind = 1) (hi : i < o.fs.length) : s.write (a : Int) (i : Int) y = (0, s.put (setOb s.L a i y)) := by
  have hg := hGet_at (i : Int) ho
  rw [if_neg (by omega)] at hg
  unfold GS.write
  rw [hg, if_pos rfl]
  unfold GS.barrier
  rw [if_neg (by rw [hKind_at ho]; intro hx; exact hx.2 hk), hSet_at (i : Int) y ho, if_neg (by omega), Int.toNat_natCast]
def textV (m : Nat) (x : SS) (l : List UInt8) (xs : List Nat) (r : Nat × Int × SS) : Prop :=
  if 32760 < l.length then r = (0, 2, x)
  else if (x.alloc m 1 (fieldsOf l.length : Nat) xs).2.1 = 0 then
    ∃ a y, x.alloc m 1 (fieldsOf l.length : Nat) xs = (2 * a, 0, y) ∧ findOb y.s.L a = some (newOb a 1 (fieldsOf l.length)) ∧ r = (2 * a, 0, ⟨y.s.put (layTo y.s.L a (textW l) (fieldsOf l.length)), y.cy⟩)
  else r = x.alloc m 1 (fieldsOf l.length : Nat) xs
def TextIs (F : Nat → Prop) (p g q m : Nat) (x : SS) (l : List UInt8) (xs : List Nat) (w : World) (e : Ending) (w' : World) : Prop := ∃ r, textV m x l xs r ∧ STwo F p g q m r w e w'
theorem addr_two {a : Nat} (h : a ≤ 65536) : addrW (2 * a) = a := addr_ref (by omega)
set_option maxHeartbeats 4000000 in
set_option maxRecDepth 100000 in
theorem st_Text (F : Nat → Prop) (p g q m : Nat) (x : SS) (w : World) (h : SIn F w p g q m x) (hT : Tab w) (hF : F 0) (hc : x.cy ≤ 100000000) (s : ByteArray) (hs : s.size ≤ 9223372036854775807) (A : Option Addr) (nr c : Nat) (xs : List Nat) (hx : WordsAt w F A nr xs) (hn : nr ≤ 9223372036854775807) :
    Calls Tryz.prog 17 #[.pointer (some ⟨p, 0, none⟩), .string s, .slice A nr c] w (TextIs F p g q m x s.data.toList xs w) := by
  have hsl : s.data.toList.length = s.size := rfl
  have HSL : Hid (s.data.toList.length = s.size) := Lib.hid rfl
  by_cases hbig : 32760 < s.size
  · have g1 : decide (32760 < (s.size : Int)) = true := decide_eq_true (by omega)
    have g1' : decide (32760 < s.size) = true := decide_eq_true hbig
    have HE : Hid (TextIs F p g q m x s.data.toList xs w (.returned (.tuple #[.int .u64 0, .int .i64 2])) w) := Lib.hid ⟨(0, 2, x), by unfold textV; rw [if_pos (by rw [hsl]; exact hbig)], rfl, h, Turned.refl _ _⟩
    clear h hT hbig hx hsl
    go_enter Tryz.func17, Tryz.ntmps17
    go_wp2_with fail
    go_ret2
    exact HE.out
  · have g1 : decide (32760 < (s.size : Int)) = false := decide_eq_false (by omega)
    have g1' : decide (32760 < s.size) = false := decide_eq_false hbig
    have hfb : fieldsOf s.size ≤ 4096 := by unfold fieldsOf; omega
    have HFF := Lib.hid (fieldsFor_any s.size (by omega) w)
    have HAL := Lib.hid (st_Alloc F p g q m x w h hT hF hc 1 (fieldsOf s.size : Nat) A nr c xs hx hn)
    rcases salloc_cases h.inv 1 (fieldsOf s.size : Nat) xs with ⟨e, y, he, _, ha⟩ | ⟨a, kk, nn, y, hk1, hn1, ham, hyi, hfa, ha⟩
    · have HX : Hid (∀ e9 w9, STwo F p g q m (0, e, y) w e9 w9 → TextIs F p g q m x s.data.toList xs w e9 w9) := Lib.hid (fun e9 w9 h9 => ⟨(0, e, y), by unfold textV; rw [if_neg (by rw [hsl]; exact hbig), hsl, ha, if_neg he], h9⟩)
      rw [ha] at HAL
      have B1 : (e != 0) = true := by rw [bne_iff_ne]; exact he
      clear h hT hbig hx hsl ha he
      go_enter Tryz.func17, Tryz.ntmps17
      go_wp2_with fail
      refine HFF.out.mono ?_
      rintro e1 w' ⟨rfl, rfl⟩
      go_wp2_with fail
      refine HAL.out.mono ?_
      rintro e1 w1 ⟨rfl, hs1⟩
      have H1 := Lib.hid hs1
      clear hs1
      go_wp2_with fail
      go_ret2
      exact HX.out _ _ ⟨rfl, H1.out⟩
    · obtain rfl : kk = 1 := by omega
      have hnn : nn = fieldsOf s.size := by omega
      subst hnn
      have hm := h.few
      have HX : Hid (∀ e9 w9, STwo F p g q m (2 * a, 0, ⟨y.s.put (layTo y.s.L a (textW s.data.toList) (fieldsOf s.size)), y.cy⟩) w e9 w9 → TextIs F p g q m x s.data.toList xs w e9 w9) := Lib.hid (fun e9 w9 h9 => ⟨_, by
        unfold textV
        rw [if_neg (by rw [hsl]; exact hbig), hsl, ha, if_pos rfl]
        exact ⟨a, y, rfl, hfa, rfl⟩, h9⟩)
      rw [ha] at HAL
      have HFA := Lib.hid hfa
      have HST : Hid (∀ (i : Nat) (z : Nat) W, i < fieldsOf s.size → z < 18446744073709551616 → SGo F p g q m ⟨y.s.put (layTo y.s.L a (textW s.data.toList) i), y.cy⟩ w W → z = textW s.data.toList i →
          Calls Tryz.prog 11 #[.pointer (some ⟨p, 0, none⟩), .int .u64 ((2 * a : Nat) : Int), .int .i64 (i : Int), .int .u64 (z : Int)] W (fun e9 w9 => e9 = .returned (.int .i64 0) ∧ SGo F p g q m ⟨y.s.put (layTo y.s.L a (textW s.data.toList) (i + 1)), y.cy⟩ w w9)) := Lib.hid (fun i z W hi hz hW he => by
        have h9 := st_Set F p g q m _ W hW.1 (2 * a) (by omega) (i : Int) z hz
        obtain ⟨o, ho1, ho2, ho3, _⟩ := layTo_find (textW s.data.toList) HFA.out i (by omega)
        rw [addr_two (by omega), write_text z (s := y.s.put (layTo y.s.L a (textW s.data.toList) i)) ho1 ho2 (by omega)] at h9
        refine h9.mono ?_
        rintro e9 w9 ⟨he9, hs9⟩
        refine ⟨he9, hW.then ?_⟩
        subst he
        exact hs9)
      have HOF := Lib.hid (fun W => word_Of (s.size : Int) W)
      have hwof : WOf (s.size : Int) = ((2 * s.size + 1 : Nat) : Int) := by unfold WOf U64 W63; omega
      rw [hwof] at HOF
      have hw0 : 2 * s.size + 1 = textW s.data.toList 0 := by unfold textW; rw [if_pos rfl, hsl]
      have HW0 := Lib.hid hw0
      have hf0 : 0 < fieldsOf s.size := by unfold fieldsOf; omega
      clear h hT hx hsl ha hfa hk1 hn1 hyi hw0 hwof
      go_enter Tryz.func17, Tryz.ntmps17
      go_wp2_with fail
      refine HFF.out.mono ?_
      rintro e1 w' ⟨rfl, rfl⟩
      go_wp2_with fail
      refine HAL.out.mono ?_
      rintro e1 w1 ⟨rfl, hs1⟩
      have H1 := Lib.hid hs1
      clear hs1 HAL
      go_wp2_with fail
      refine (HOF.out w1).mono ?_
      rintro e1 w' ⟨rfl, rfl⟩
      have hs0 := HST.out 0 (2 * s.size + 1) w1 hf0 (by omega) H1.out HW0.out
      rw [show ((0 : Nat) : Int) = 0 from rfl] at hs0
      go_wp2_with fail
      refine hs0.mono ?_
      clear hs0
      rintro e1 w2 ⟨rfl, hs2⟩
      have H2 := Lib.hid hs2
      clear hs2 H1
      go_wp2_with fail
      go_loopw [10, 1] (fun vi vt wr => ∃ (i : Nat) (t : ByteArray), 1 ≤ i ∧ i ≤ fieldsOf s.size ∧ vi = .int .i64 i ∧ vt = .string t ∧ Hid (t.data.toList = s.data.toList.drop (8 * (i - 1))) ∧ Hid (SGo F p g q m ⟨y.s.put (layTo y.s.L a (textW s.data.toList) i), y.cy⟩ w wr)) (fun vi _ _ => fieldsOf s.size - (intOf vi).toNat)
      case atStart => exact ⟨1, s, by omega, by omega, by go_num, rfl, Lib.hid rfl, H2⟩
      case round =>
        obtain ⟨i, t, hi1, hi2, rfl, rfl, HT, HS⟩ := hrel
        clear H2
        have htl : t.size = s.size - 8 * (i - 1) := by
          have h9 := congrArg List.length HT.out
          rw [List.length_drop] at h9
          exact h9
        have HTL := Lib.hid htl
        by_cases hz : 0 < t.size
        · have hif : i < fieldsOf s.size := by unfold fieldsOf; omega
          have e0 : t.toList.isEmpty = false := by
            rw [ByteArray.toList_eq, List.isEmpty_eq_false_iff]
            intro h9
            have h8 := congrArg List.length h9
            have h8 : t.size = 0 := h8
            omega
          have HTX : Hid (∀ k, k ≤ t.size → (k = 8 ∨ k = t.size ∧ k ≤ 8) → (t.extract 0 k).size ≤ 8 ∧ packL (t.extract 0 k).data.toList = textW s.data.toList i ∧ (t.extract k t.size).data.toList = s.data.toList.drop (8 * (i + 1 - 1))) := Lib.hid (by
            intro k hk hk8
            have h1 : (t.extract 0 k).data.toList = t.data.toList.take k := by rw [Lib.extract_data]; simp
            have h2 : (t.extract 0 k).size = k := by rw [ByteArray.size_extract]; omega
            have h3 : (t.extract k t.size).data.toList = t.data.toList.drop k := by
              rw [Lib.extract_data]
              exact List.take_of_length_le (by rw [List.length_drop]; exact Nat.le_refl _)
            refine ⟨by rw [h2]; omega, ?_, ?_⟩
            · unfold textW
              rw [if_neg (by omega), h1, ← HT.out]
              congr 1
              rcases hk8 with rfl | ⟨rfl, h8⟩
              · rfl
              · rw [List.take_of_length_le (show t.data.toList.length ≤ t.size from Nat.le_refl _), List.take_of_length_le (show t.data.toList.length ≤ 8 from h8)]
            · rw [h3, HT.out, List.drop_drop]
              rcases hk8 with rfl | ⟨rfl, h8⟩
              · congr 1; omega
              · have h9 := HTL.out
                rw [List.drop_eq_nil_of_le (by rw [HSL.out]; omega), List.drop_eq_nil_of_le (by rw [HSL.out]; omega)])
          have HSM : Hid (textW s.data.toList i < 18446744073709551616) := Lib.hid (by
            unfold textW
            rw [if_neg (by omega)]
            have h1 := packL_lt ((s.data.toList.drop (8 * (i - 1))).take 8)
            have h2 : ((s.data.toList.drop (8 * (i - 1))).take 8).length ≤ 8 := by rw [List.length_take]; omega
            have h3 : 256 ^ ((s.data.toList.drop (8 * (i - 1))).take 8).length ≤ 256 ^ 8 := Nat.pow_le_pow_right (by decide) h2
            exact Nat.lt_of_lt_of_le h1 h3)
          have HSI := Lib.hid (HST.out i (textW s.data.toList i) wr hif HSM.out HS.out rfl)
          have hk : t.size ≤ 8 ∨ 8 < t.size := by omega
          clear htl
          rcases hk with hk | hk
          · have HTK := Lib.hid (HTX.out t.size (Nat.le_refl _) (.inr ⟨rfl, by omega⟩))
            have m2 : decide ((t.size : Int) ≤ 8) = true := decide_eq_true (by omega)
            have m3 : decide ((8 : Int) < (t.size : Int)) = false := decide_eq_false (by omega)
            have hee : t.extract 0 t.size = t := by simp
            have hpk := pack_any t (by omega) wr
            have h9 := HTK.out.2.1
            rw [hee] at h9
            rw [h9] at hpk
            have HPK := Lib.hid hpk
            have h8 := HTK.out.2.2
            rw [show t.extract t.size t.size = ByteArray.empty by simp] at h8
            have HNX := Lib.hid h8
            clear HTX HTK hpk HTL h9 hee h8
            go_wp2_with fail
            refine HPK.out.mono ?_
            rintro e9 w' ⟨rfl, rfl⟩
            go_wp2_with fail
            refine HSI.out.mono ?_
            rintro e9 w4 ⟨rfl, hs4⟩
            have H4 := Lib.hid hs4
            clear hs4
            go_wp2_with fail
            go_roundw
            case rel => exact ⟨i + 1, _, by omega, by omega, by go_num, rfl, HNX, H4⟩
            case measure => simp [intOf]; omega
          · have HTK := Lib.hid (HTX.out 8 (by omega) (.inl rfl))
            have m1 : decide ((t.size : Int) ≤ 8) = false := decide_eq_false (by omega)
            have m3 : decide ((8 : Int) < (t.size : Int)) = true := decide_eq_true (by omega)
            have hpk := pack_any (t.extract 0 8) HTK.out.1 wr
            rw [HTK.out.2.1] at hpk
            have HPK := Lib.hid hpk
            have HNX := Lib.hid HTK.out.2.2
            clear HTX HTK hpk HTL
            go_wp2_with fail
            refine HPK.out.mono ?_
            rintro e9 w' ⟨rfl, rfl⟩
            go_wp2_with fail
            refine HSI.out.mono ?_
            rintro e9 w4 ⟨rfl, hs4⟩
            have H4 := Lib.hid hs4
            clear hs4
            go_wp2_with fail
            go_roundw
            case rel => exact ⟨i + 1, _, by omega, by omega, by go_num, rfl, HNX, H4⟩
            case measure => simp [intOf]; omega
        · have hii : i = fieldsOf s.size := by unfold fieldsOf at hi2 ⊢; omega
          have e0 : t.toList.isEmpty = true := by
            rw [ByteArray.toList_eq, List.isEmpty_iff]
            exact List.eq_nil_of_length_eq_zero (by show t.size = 0; omega)
          subst hii
          clear htl
          go_wp2_with fail
          go_ret2
          exact HX.out _ _ ⟨rfl, HS.out⟩
theorem salloc_direct {m : Nat} {x : SS} {kd n : Int} {xs : List Nat} {a : Nat} {t : GS} (h : x.s.alloc m kd n = ((a : Int), 0, t)) : x.alloc m kd n xs = (2 * a, 0, ⟨t, x.cy⟩) := by
  unfold SS.alloc
  rw [h, if_neg (by show ¬ ((0 : Int) = 6); decide)]
  unfold SS.put
  rw [if_pos rfl]
  rfl
theorem salloc_third {m K : Nat} {x : SS} {kd n : Int} {xs : List Nat} {s1 t : GS} {r : Int × Int × GS} (h : x.s.alloc m kd n = (0, 6, x.s)) (h0 : x.s.ph = 0) (hb : (x.s.begin xs).2 = s1) (h1 : s1.ph ≠ 0) (he : EndsAt s1 K) (hr : s1.run K = t) (ha : t.alloc m kd n = r) :
    x.alloc m kd n xs = SS.put ⟨t, x.cy + 1⟩ r := by
  have hd : x.s.done = x.s := done_is (K := 0) ⟨h0, fun j hj => by omega⟩
  have hs : x.second m kd n = x := by
    unfold SS.second
    rw [h]
    unfold SS.finish
    simp only
    rw [hd, if_pos h0]
  unfold SS.alloc
  rw [h, if_pos rfl, hs, h, if_pos rfl]
  have ht : x.third m kd n xs = ⟨t, x.cy + 1⟩ := by
    unfold SS.third
    rw [h]
    simp only
    rw [hb]
    unfold SS.finish
    simp only
    rw [done_is he, hr, if_neg h1]
  rw [ht, ha]
def vL : Nat → List Ob
  | 0 => []
  | 1 => [⟨1, 5, [1]⟩]
  | 2 => [⟨1, 5, [1]⟩, ⟨3, 5, [1]⟩]
  | 3 => [⟨1, 5, [1]⟩, ⟨3, 5, [1]⟩, ⟨5, 5, [1]⟩]
  | _ => [⟨1, 5, [1]⟩, ⟨3, 5, [1]⟩, ⟨5, 5, [1]⟩, ⟨7, 5, [1]⟩]
def vy (i : Nat) : SS := ⟨⟨vL i, 0, [], [], 0⟩, 0⟩
theorem vy_1 : (vy 0).alloc 9 5 1 [] = (2, 0, vy 1) := salloc_direct (a := 1) (by kernel_rfl)
theorem vy_2 : (vy 1).alloc 9 5 1 [] = (6, 0, vy 2) := salloc_direct (a := 3) (by kernel_rfl)
theorem vy_3 : (vy 2).alloc 9 5 1 [] = (10, 0, vy 3) := salloc_direct (a := 5) (by kernel_rfl)
theorem vy_4 : (vy 3).alloc 9 5 1 [] = (14, 0, vy 4) := salloc_direct (a := 7) (by kernel_rfl)
def vs5 : GS := ⟨vL 4, 1, [1], [], 0⟩
def vt5 : GS := ⟨vL 1, 0, [], [], 8⟩
def vy5 : SS := ⟨⟨[⟨1, 5, [1]⟩, ⟨3, 5, [1, 1]⟩], 0, [], [], 8⟩, 1⟩
def vs6 : GS := ⟨[⟨1, 5, [1]⟩, ⟨3, 5, [1, 1]⟩], 1, [], [], 8⟩
def vt6 : GS := ⟨[], 0, [], [], 4⟩
def vy6 : SS := ⟨vt6, 2⟩
theorem vs5_run : vs5.run 7 = vt5 := by kernel_rfl
theorem vs5_phs : [0, 1, 2, 3, 4, 5, 6].map (fun j => (vs5.run j).ph) = [1, 1, 2, 2, 2, 2, 2] := by kernel_rfl
theorem vs5_ends : EndsAt vs5 7 := by
  refine ⟨by rw [vs5_run]; rfl, fun j hj => ?_⟩
  have h := vs5_phs
  simp only [List.map_cons, List.map_nil, List.cons.injEq, and_true] at h
  have : j = 0 ∨ j = 1 ∨ j = 2 ∨ j = 3 ∨ j = 4 ∨ j = 5 ∨ j = 6 := by omega
  rcases this with rfl | rfl | rfl | rfl | rfl | rfl | rfl <;> omega
theorem vs6_run : vs6.run 4 = vt6 := by kernel_rfl
theorem vs6_phs : [0, 1, 2, 3].map (fun j => (vs6.run j).ph) = [1, 2, 2, 2] := by kernel_rfl
theorem vs6_ends : EndsAt vs6 4 := by
  refine ⟨by rw [vs6_run]; rfl, fun j hj => ?_⟩
  have h := vs6_phs
  simp only [List.map_cons, List.map_nil, List.cons.injEq, and_true] at h
  have : j = 0 ∨ j = 1 ∨ j = 2 ∨ j = 3 := by omega
  rcases this with rfl | rfl | rfl | rfl <;> omega
theorem vy_5 : (vy 4).alloc 9 5 2 [2] = (6, 0, vy5) := salloc_third (by kernel_rfl) rfl (s1 := vs5) (by kernel_rfl) (by decide) vs5_ends vs5_run (r := (3, 0, vy5.s)) (by kernel_rfl)
theorem vy_6 : vy5.alloc 9 6 9 [] = (0, 6, vy6) := salloc_third (by kernel_rfl) rfl (s1 := vs6) (by kernel_rfl) (by decide) vs6_ends vs6_run (r := (0, 6, vt6)) (by kernel_rfl)
theorem vy_room : roomOf 9 (vy 4).s.L = 0 := by kernel_rfl
/-- The text's store. -/
def vl : List UInt8 := [97, 98, 99, 100, 101, 102, 103, 104, 105]
def vz0 : SS := ⟨⟨[], 0, [], [], 0⟩, 0⟩
def vzt : GS := ⟨[⟨1, 1, [1, 1, 1]⟩], 0, [], [], 0⟩
def vz1 : SS := ⟨⟨[⟨1, 1, [19, 7523094288207667809, 105]⟩], 0, [], [], 0⟩, 0⟩
def vz2 : GS := ⟨[⟨1, 1, [3, 7523094288207667809, 105]⟩], 0, [], [], 0⟩
def vz3 : SS := ⟨⟨[⟨1, 1, [3, 7523094288207667809, 105]⟩], 1, [], [], 0⟩, 0⟩
theorem vz_alloc : vz0.alloc 20 1 (fieldsOf vl.length : Nat) [] = (2, 0, ⟨vzt, 0⟩) := salloc_direct (a := 1) (by kernel_rfl)
theorem vz_lay : vzt.put (layTo vzt.L 1 (textW vl) (fieldsOf vl.length)) = vz1.s := by kernel_rfl
theorem vz_text {r : Nat × Int × SS} (h : textV 20 vz0 vl [] r) : r = (2, 0, vz1) := by
  unfold textV at h
  rw [if_neg (by decide), vz_alloc, if_pos rfl] at h
  obtain ⟨a, y, h1, _, h3⟩ := h
  simp only [Prod.mk.injEq] at h1
  obtain ⟨ha, _, rfl⟩ := h1
  obtain rfl : a = 1 := by omega
  rw [h3]
  show (2, 0, SS.mk (vzt.put (layTo vzt.L 1 (textW vl) (fieldsOf vl.length))) 0) = _
  rw [vz_lay]
  rfl
theorem vz_str : strV vz1.s.L (addrW 2) = ([97, 98, 99, 100, 101, 102, 103, 104, 105], 0) := by kernel_rfl
theorem vz_write : vz1.s.write (addrW 2 : Nat) 0 3 = (0, vz2) := by kernel_rfl
theorem vz_pick : (SS.mk vz2 0).pick [] = vz3 := by kernel_rfl
theorem vz_kind : hKind vz3.s.L (addrW 2 : Nat) = (1, 0) := by kernel_rfl
theorem vz_size : hSize vz3.s.L (addrW 2 : Nat) = (3, 0) := by kernel_rfl
/-- A store beside what was there. -/
def MidSt (w : World) (p g q m : Nat) (x : SS) (wr : World) : Prop := SIn (fun b => b < w.heap.size) wr p g q m x ∧ Below w.heap.size w wr
theorem MidSt.go {w wr w' : World} {p g q m : Nat} {x y : SS} (h : MidSt w p g q m x wr) (hs : SGo (fun b => b < w.heap.size) p g q m y wr w') : MidSt w p g q m y w' := ⟨hs.1, h.2.trans (hs.2.below (fun _ hb => hb) h.2.size)⟩
theorem MidSt.next {w wr w' : World} {p g q m : Nat} {x : SS} (h : MidSt w p g q m x wr) (hb : Below wr.heap.size wr w') : MidSt w p g q m x w' := ⟨h.1.below hb, h.2.trans (hb.mono h.2.size)⟩
theorem MidSt.tab {w wr : World} {p g q m : Nat} {x : SS} (h : MidSt w p g q m x wr) (hT : Tab w) : Tab wr := hT.below h.2 hT.lt
theorem vz_bytes : strOf [97, 98, 99, 100, 101, 102, 103, 104, 105] = ⟨#[97, 98, 99, 100, 101, 102, 103, 104, 105]⟩ := by kernel_rfl
theorem words_none (w : World) (V : Nat → Prop) : WordsAt w V none 0 [] := ⟨rfl, (fun x hx => by cases hx), fun i hi => by omega⟩
theorem MidSt.alloc {w wr : World} {p g q m : Nat} {x y : SS} {v : Nat} {e : Int} (h : MidSt w p g q m x wr) (hT : Tab w) (hc : x.cy ≤ 100000000) (kd n : Int) (hy : x.alloc m kd n [] = (v, e, y)) :
    Calls Tryz.prog 9 #[.pointer (some ⟨p, 0, none⟩), .int .i64 kd, .int .i64 n, .slice none 0 0] wr fun e9 w9 => e9 = .returned (.tuple #[.int .u64 (v : Int), .int .i64 e]) ∧ MidSt w p g q m y w9 := by
  have h1 := st_Alloc _ p g q m x wr h.1 (h.tab hT) hT.lt hc kd n none 0 0 [] (words_none _ _) (by decide)
  rw [hy] at h1
  exact h1.mono fun e9 w9 ⟨he, hs⟩ => ⟨he, h.go hs⟩
set_option maxHeartbeats 8000000 in
set_option maxRecDepth 100000 in
theorem awake4_any (w : World) (hT : Tab w) : Calls Tryz.prog 5 #[] w (YesMade true w) := by
  have HT := Lib.hid hT
  clear hT
  have hnew : Calls Tryz.prog 6 #[.int .i64 9] w (SNew 9 w) := st_New 9 (by decide) (by decide) w
  have HNW := Lib.hid hnew
  clear hnew
  go_enter Tryz.func5, Tryz.ntmps5
  go_wp2_with fail
  refine HNW.out.mono ?_
  rintro e w1 ⟨p, g, q, rfl, h1, hb1, _⟩
  have H : Hid (MidSt w p g q 9 (vy 0) w1) := Lib.hid ⟨h1, hb1⟩
  clear h1 hb1 HNW
  go_wp2_with fail
  refine (st_New_nil 1 _ (by decide)).mono ?_
  rintro e w' ⟨rfl, rfl⟩
  have ha := Lib.hid (H.out.alloc HT.out (by decide) 5 1 vy_1)
  go_wp2_with fail
  refine ha.out.mono ?_
  clear ha
  rintro e w2 ⟨rfl, h2⟩
  have H2 := Lib.hid h2
  clear h2 H
  go_wp2_with fail
  go_loopw [4] (fun vi wr => ∃ i : Nat, i ≤ 3 ∧ vi = .int .i64 i ∧ Hid (MidSt w p g q 9 (vy (i + 1)) wr)) (fun vi _ => 3 - (intOf vi).toNat)
  case atStart => exact ⟨0, by omega, by go_num, H2⟩
  case round =>
    obtain ⟨i, hi, rfl, HI⟩ := hrel
    clear H2
    by_cases hil : i < 3
    · have g2 : decide ((i : Int) < 3) = true := decide_eq_true (by omega)
      have HA : Hid (∃ v : Nat, (vy (i + 1)).alloc 9 5 1 [] = (v, 0, vy (i + 1 + 1))) := Lib.hid (by
        have : i = 0 ∨ i = 1 ∨ i = 2 := by omega
        rcases this with rfl | rfl | rfl
        · exact ⟨6, vy_2⟩
        · exact ⟨10, vy_3⟩
        · exact ⟨14, vy_4⟩)
      obtain ⟨v, hv⟩ := HA.out
      have ha := Lib.hid (HI.out.alloc HT.out (by show (0 : Nat) ≤ _; decide) 5 1 hv)
      clear hv HA
      go_wp2_with fail
      refine ha.out.mono ?_
      clear ha
      rintro e w3 ⟨rfl, h3⟩
      have H3 := Lib.hid h3
      clear h3
      go_wp2_with fail
      go_roundw
      case rel => exact ⟨i + 1, by omega, by go_num, H3⟩
      case measure => simp [intOf]; omega
    · have g2 : decide ((i : Int) < 3) = false := decide_eq_false (by omega)
      obtain rfl : i = 3 := by omega
      have hr := st_Room _ p g q 9 _ _ HI.out.1
      rw [vy_room] at hr
      have HR := Lib.hid hr
      clear hr hil hi
      go_wp2_with fail
      refine HR.out.mono ?_
      rintro e w4 ⟨rfl, hb4⟩
      have H4 := Lib.hid (HI.out.next hb4)
      clear hb4 HI HR
      have H4b : Hid (MidSt w p g q 9 (vy 4) (w4.alloc (.cells #[.int .u64 2] 33)) ∧ WordsAt (w4.alloc (.cells #[.int .u64 2] 33)) (fun b => b < w.heap.size ∨ b = w4.heap.size) (some ⟨w4.heap.size, 0, none⟩) 1 [2]) := Lib.hid ⟨H4.out.next (below_one _), rfl, by decide, fun i hi => ⟨w4.heap.size, 0, rfl, by simp, .inr rfl, by
        obtain rfl : i = 0 := by omega
        rw [Lib.cell_of_heap (heap_alloc_new w4 _)]; rfl⟩⟩
      have h5 := st_Alloc (fun b => b < w.heap.size ∨ b = w4.heap.size) p g q 9 (vy 4) _ (H4.out.1.more (below_one (.cells #[.int .u64 2] 33)) (fun b hb => hb.imp id fun he => ⟨by omega, by simp; omega⟩)) (H4b.out.1.tab HT.out) (.inl HT.out.lt) (by decide) 5 2 (some ⟨w4.heap.size, 0, none⟩) 1 1 [2] H4b.out.2 (by decide)
      rw [vy_5] at h5
      have HA5 := Lib.hid h5
      clear h5
      go_wp2_with fail
      refine HA5.out.mono ?_
      rintro e w5 ⟨rfl, h5⟩
      have H5 : Hid (MidSt w p g q 9 vy5 w5) := Lib.hid (H4b.out.1.go ⟨h5.1.less fun b hb => .inl hb, h5.2.mono fun b hn hF => hn (.inl hF)⟩)
      clear h5 HA5 H4 H4b
      have ha := Lib.hid (H5.out.alloc HT.out (by decide) 6 9 vy_6)
      go_wp2_with fail
      refine ha.out.mono ?_
      clear ha
      rintro e w6 ⟨rfl, h6⟩
      have H6 := Lib.hid h6
      clear h6 H5
      have hnew : Calls Tryz.prog 6 #[.int .i64 20] w6 (SNew 20 w6) := st_New 20 (by decide) (by decide) w6
      have HNW := Lib.hid hnew
      clear hnew
      go_wp2_with fail
      refine HNW.out.mono ?_
      rintro e w7 ⟨p2, g2, q2, rfl, h7, hb7, _⟩
      have H7 : Hid (MidSt w6 p2 g2 q2 20 vz0 w7) := Lib.hid ⟨h7, hb7⟩
      have HT6 := Lib.hid (H6.out.tab HT.out)
      clear h7 hb7 HNW
      have h8 := st_Text _ p2 g2 q2 20 vz0 w7 H7.out.1 (H7.out.tab HT6.out) HT6.out.lt (by decide) ⟨#[97, 98, 99, 100, 101, 102, 103, 104, 105]⟩ (by decide) none 0 0 [] (words_none _ _) (by decide)
      have HA8 := Lib.hid h8
      clear h8
      go_wp2_with fail
      refine HA8.out.mono ?_
      clear HA8
      rintro e w8 ⟨r, hr, h8⟩
      obtain rfl := vz_text hr
      obtain ⟨rfl, h8⟩ := h8
      have H8 : Hid (MidSt w6 p2 g2 q2 20 vz1 w8) := Lib.hid (H7.out.go h8)
      clear hr h8 H7
      have h9 := st_String _ p2 g2 q2 20 vz1 w8 H8.out.1 2 (by decide)
      rw [vz_str] at h9
      have h9 := h9.mono fun e9 w9 (hh : StrIs ([97, 98, 99, 100, 101, 102, 103, 104, 105], 0) w8 e9 w9) => (show e9 = .returned (.tuple #[.string ⟨#[97, 98, 99, 100, 101, 102, 103, 104, 105]⟩, .int .i64 0]) ∧ Below w8.heap.size w8 w9 from ⟨hh.1.trans (by rw [vz_bytes]), hh.2⟩)
      have HA9 := Lib.hid h9
      clear h9
      go_wp2_with fail
      refine HA9.out.mono ?_
      clear HA9
      rintro e w9 ⟨rfl, hb9⟩
      have H9 := Lib.hid (H8.out.next hb9)
      clear hb9 H8
      have h10 := st_Set _ p2 g2 q2 20 vz1 w9 H9.out.1 2 (by decide) 0 3 (by decide)
      rw [vz_write] at h10
      have HA10 := Lib.hid h10
      clear h10
      go_wp2_with fail
      refine HA10.out.mono ?_
      clear HA10
      rintro e w10 ⟨rfl, h10⟩
      have H10 : Hid (MidSt w6 p2 g2 q2 20 ⟨vz2, 0⟩ w10) := Lib.hid (H9.out.go h10)
      clear h10 H9
      have h11 := st_Pick _ p2 g2 q2 20 ⟨vz2, 0⟩ w10 H10.out.1 (H10.out.tab HT6.out) (by decide) none 0 0 [] (words_none _ _) (by decide)
      rw [vz_pick] at h11
      have HA11 := Lib.hid h11
      clear h11
      go_wp2_with fail
      refine HA11.out.mono ?_
      clear HA11
      rintro e w11 ⟨rfl, h11⟩
      have H11 : Hid (MidSt w6 p2 g2 q2 20 vz3 w11) := Lib.hid (H10.out.go h11)
      have HS11 : Hid (MidSt w p g q 9 vy6 w11) := Lib.hid (H6.out.next H11.out.2)
      clear h11 H10 H6
      go_wp2_with fail
      refine (ref_any 1 (by decide) _).mono ?_
      rintro e w' ⟨rfl, rfl⟩
      go_wp2_with fail
      refine (ref_any 3 (by decide) _).mono ?_
      rintro e w' ⟨rfl, rfl⟩
      have hcy := Lib.hid (st_Cycles _ p g q 9 _ _ HS11.out.1)
      go_wp2_with fail
      refine hcy.out.mono ?_
      clear hcy
      rintro e w' ⟨rfl, rfl⟩
      have hkd := st_Kind _ p2 g2 q2 20 _ _ H11.out.1 2 (by decide)
      rw [vz_kind] at hkd
      have HKD := Lib.hid hkd
      clear hkd
      go_wp2_with fail
      refine HKD.out.mono ?_
      clear HKD
      rintro e w12 ⟨rfl, hb12⟩
      have H12 := Lib.hid (H11.out.next hb12)
      have HS12 := Lib.hid (HS11.out.2.trans (hb12.mono HS11.out.2.size))
      clear hb12
      have hkd := st_Size _ p2 g2 q2 20 _ _ H12.out.1 2 (by decide)
      rw [vz_size] at hkd
      have HKD := Lib.hid hkd
      clear hkd
      go_wp2_with fail
      refine HKD.out.mono ?_
      clear HKD
      rintro e w13 ⟨rfl, hb13⟩
      have H13 := Lib.hid (H12.out.next hb13)
      have HS13 := Lib.hid (HS12.out.trans (hb13.mono HS12.out.size))
      clear hb13
      have hcy := Lib.hid (st_Cycles _ p2 g2 q2 20 _ _ H13.out.1)
      go_wp2_with fail
      refine hcy.out.mono ?_
      clear hcy
      rintro e w' ⟨rfl, rfl⟩
      go_wp2_with fail
      go_ret
      exact ⟨rfl, HS13.out⟩
theorem cyc_find {m : Nat} {s : GS} (hi : GInv m s) {a : Nat} (h : IsIn s.step.2.L a) : findOb s.step.2.L a = findOb s.L a := by
  unfold GS.step at h ⊢
  split at h
  · rename_i h1
    rw [if_pos h1]
    split at h
    · rename_i h2
      rw [if_pos h2]
    · rename_i h2
      rw [if_neg h2]
      show findOb (s.blacken (least s.G)).L a = _
      rw [show (s.blacken (least s.G)).L = s.L from (shades_same _ _).1]
  · rename_i h1
    rw [if_neg h1]
    split at h
    · rename_i h2
      rw [if_pos h2]
      split at h
      · rename_i h3
        rw [if_pos h3]
      · rename_i h3
        rw [if_neg h3]
        have h : IsIn (if s.White (nextOb s.L s.pos) then dropOb s.L (nextOb s.L s.pos) else s.L) a := h
        show findOb (if s.White (nextOb s.L s.pos) then dropOb s.L (nextOb s.L s.pos) else s.L) a = _
        split at h
        · rename_i hw
          rw [if_pos hw]
          have hd := (drop_facts hi.lies hw.1).2 a
          unfold IsIn at h
          rw [hd] at h ⊢
          split at h
          · cases h
          · rename_i hne
            rw [if_neg hne]
        · rename_i hw
          rw [if_neg hw]
    · rename_i h2
      rw [if_neg h2]
theorem cyc_isIn {m : Nat} {s : GS} (hi : GInv m s) {a : Nat} (h : IsIn s.step.2.L a) : IsIn s.L a := by
  unfold IsIn
  rw [← cyc_find hi h]
  exact h
theorem cyc_run_find {m : Nat} {s : GS} (hi : GInv m s) (K : Nat) {a : Nat} (h : IsIn (s.run K).L a) : findOb (s.run K).L a = findOb s.L a := by
  induction K with
  | zero => rfl
  | succ K ih =>
    have h1 := cyc_isIn (hi.run K) h
    exact (cyc_find (hi.run K) h).trans (ih h1)
/-- What a cycle leaves is what its roots reached. -/
theorem cycle_left {m K : Nat} {s : GS} (hi : GInv m s) (h0 : s.ph = 0) (roots : List Nat) (he : ((s.begin roots).2.run K).ph = 0) (a : Nat) :
    (IsIn ((s.begin roots).2.run K).L a ↔ Reached s.L roots a) ∧ (IsIn ((s.begin roots).2.run K).L a → findOb ((s.begin roots).2.run K).L a = findOb s.L a) := by
  have hib := hi.begin roots
  have hk := (KInv.begin hi roots h0).run hib K
  have hf := (FInv.begin hi roots h0).run hib K
  have hL : (s.begin roots).2.L = s.L := by
    unfold GS.begin
    rw [if_pos h0]
    exact (shades_same _ _).1
  refine ⟨⟨fun h => ?_, fun h => hk.isin a (.inl h)⟩, fun h => by rw [cyc_run_find hib K h, hL]⟩
  rcases hf.ended he a h with h1 | h1
  · exact h1
  · cases h1
def sizeAt (L : List Ob) (a : Nat) : Nat := match findOb L a with
  | some o => 1 + o.fs.length
  | none => 0
def sumSizes (L : List Ob) (l : List Nat) : Nat := (l.map (sizeAt L)).sum
theorem used_sizes {m p : Nat} {L L2 : List Ob} (hl : Lies m p L2) (h : ∀ o ∈ L2, findOb L o.at_ = some o) : sumSizes L (L2.map Ob.at_) = usedBy L2 := by
  induction L2 generalizing p with
  | nil => rfl
  | cons o L2 ih =>
    have h1 := ih hl.2 (fun x hx => h x (by simp [hx]))
    unfold sumSizes at h1 ⊢
    simp only [List.map_cons, List.sum_cons, usedBy]
    rw [h1]
    have h2 : sizeAt L o.at_ = 1 + o.fs.length := by unfold sizeAt; rw [h o (by simp)]
    rw [h2]
    omega
theorem lies_nodup {m p : Nat} {L : List Ob} (h : Lies m p L) : (L.map Ob.at_).Nodup := by
  induction L generalizing p with
  | nil => exact List.nodup_nil
  | cons o L ih =>
    rw [List.map_cons, List.nodup_cons]
    refine ⟨fun hx => ?_, ih h.2⟩
    obtain ⟨x, hx1, hx2⟩ := List.mem_map.1 hx
    have h1 := lies_mem _ _ L h.2 x hx1
    have hnx : o.next = o.at_ + 1 + o.fs.length := rfl
    omega
/-- The room behind a cycle. -/
theorem cycle_room {m K : Nat} {s : GS} (hi : GInv m s) (h0 : s.ph = 0) (roots out : List Nat) (he : ((s.begin roots).2.run K).ph = 0) (hnd : out.Nodup) (hout : ∀ a, a ∈ out ↔ Reached s.L roots a) :
    roomOf m ((s.begin roots).2.run K).L + sumSizes s.L out + 1 = m := by
  have hir := (hi.begin roots).run K
  have hc := fun a => cycle_left hi h0 roots he a
  have hp : out.Perm (((s.begin roots).2.run K).L.map Ob.at_) := by
    refine (List.perm_ext_iff_of_nodup hnd (lies_nodup hir.lies)).2 fun a => ?_
    rw [hout a, ← (hc a).1]
    constructor
    · intro h
      obtain ⟨o, ho⟩ := isIn_some h
      obtain ⟨h1, h2⟩ := find_mem ho
      exact List.mem_map.2 ⟨o, h1, h2⟩
    · intro h
      obtain ⟨o, h1, rfl⟩ := List.mem_map.1 h
      exact isIn_of (find_of_mem hir.lies h1)
  have h1 : sumSizes s.L out = sumSizes s.L (((s.begin roots).2.run K).L.map Ob.at_) := (hp.map _).sum_nat
  have h2 := used_sizes (L := s.L) hir.lies fun o ho => by
    have h3 := find_of_mem hir.lies ho
    rw [← (hc o.at_).2 (isIn_of h3)]
    exact h3
  have h4 := free_sum m 1 _ hir.lies
  unfold roomOf
  omega
/-- Objects one behind the other, from p on. -/
def Contig : Nat → List Ob → Prop
  | _, [] => True
  | p, o :: L => o.at_ = p ∧ Contig o.next L
theorem contig_alloc {m k n p : Nat} {L : List Ob} (h : Contig p L) (hn : n < m - endOf p L) : allocAt m k n p L = some (endOf p L, L ++ [newOb (endOf p L) k n]) ∧ Contig p (L ++ [newOb (endOf p L) k n]) := by
  induction L generalizing p with
  | nil =>
    have hn : n < m - p := hn
    refine ⟨?_, rfl, trivial⟩
    show (if n < m - p then _ else _) = _
    rw [if_pos hn]
    rfl
  | cons o L ih =>
    obtain ⟨h1, h2⟩ := ih h.2 hn
    refine ⟨?_, h.1, h2⟩
    show (if n < o.at_ - p then _ else _) = _
    rw [if_neg (by rw [h.1]; omega), h1]
    rfl
theorem contig_room {m p : Nat} {L : List Ob} (h : Contig p L) (hl : Lies m p L) : usedBy L + p = endOf p L := by
  induction L generalizing p with
  | nil => exact Nat.zero_add _
  | cons o L ih =>
    have h1 := ih h.2 hl.2
    have hnx : o.next = o.at_ + 1 + o.fs.length := rfl
    have h2 := h.1
    show o.fs.length + 1 + usedBy L + p = endOf o.next L
    omega
theorem contig_set {p : Nat} {L : List Ob} (a i x : Nat) (h : Contig p L) : Contig p (setOb L a i x) := by
  induction L generalizing p with
  | nil => exact h
  | cons o L ih =>
    unfold setOb
    split
    · refine ⟨h.1, ?_⟩
      have : (o.put i x).next = o.next := by simp [Ob.next, Ob.put]
      rw [this]; exact h.2
    · exact ⟨h.1, ih h.2⟩
def regOf (a : Int) : Nat := (IntKind.u64.wrap a % 8).toNat
theorem regOf_lt (a : Int) : regOf a < 8 := by unfold regOf; omega
theorem reg_wrap (a : Int) : wrap64 ((IntKind.u64.wrap a).tmod 8) = (regOf a : Int) := by
  have h1 : 0 ≤ IntKind.u64.wrap a := by rw [IntKind.wrap_u64]; omega
  rw [Int.tmod_eq_emod_of_nonneg h1]
  unfold regOf wrap64
  omega
theorem reg_any (a : Int) (w : World) : Calls Tryz.prog 8 #[.int .i64 a] w (OneSame (regOf a : Nat) w) := by
  have HR := Lib.hid (reg_wrap a)
  go_enter Tryz.func8, Tryz.ntmps8
  go_wp2_with fail
  go_ret
  exact ⟨ret_int (by rw [← HR.out]), rfl⟩
structure Stp4 where
  k : Int
  a : Int
  b : Int
  n : Int
  m : Int
  t : ByteArray
/-- The script's i-th step lies in memory: six cells. -/
def StepAt4 (w : World) (V : Nat → Prop) (A : Option Addr) (i : Nat) (s : Stp4) : Prop :=
  ∃ b off, A = some ⟨b, off, none⟩ ∧ b < w.heap.size ∧ V b ∧ w.cell? ⟨b, off + i * 6, none⟩ = some (.int .i64 s.k) ∧ w.cell? ⟨b, off + i * 6 + 1, none⟩ = some (.int .i64 s.a) ∧ w.cell? ⟨b, off + i * 6 + 2, none⟩ = some (.int .i64 s.b) ∧
    w.cell? ⟨b, off + i * 6 + 3, none⟩ = some (.int .i64 s.n) ∧ w.cell? ⟨b, off + i * 6 + 4, none⟩ = some (.int .i64 s.m) ∧ w.cell? ⟨b, off + i * 6 + 5, none⟩ = some (.string s.t) ∧ s.t.size ≤ 9223372036854775807
def Script4 (w : World) (V : Nat → Prop) (A : Option Addr) (n : Nat) : Prop := ∀ i, i < n → ∃ s, StepAt4 w V A i s
/-- A store, and the registers' block rb beside it; all that was there stands. -/
def MidR (w : World) (p g q m rb : Nat) (x : SS) (regs : List Nat) (wr : World) : Prop :=
  SIn (fun b => b < w.heap.size ∨ b = rb) wr p g q m x ∧ Words wr 33 rb 8 regs ∧ regs.length = 8 ∧ (∀ y ∈ regs, y < 18446744073709551616) ∧ Below w.heap.size w wr ∧ w.heap.size ≤ rb ∧ rb < wr.heap.size
theorem MidR.go {w wr w' : World} {p g q m rb : Nat} {x y : SS} {regs : List Nat} (h : MidR w p g q m rb x regs wr) (hs : SGo (fun b => b < w.heap.size ∨ b = rb) p g q m y wr w') : MidR w p g q m rb y regs w' :=
  ⟨hs.1, h.2.1.keep (hs.2.block rb h.2.2.2.2.2.2 fun hn => hn (.inr rfl)), h.2.2.1, h.2.2.2.1, h.2.2.2.2.1.trans (hs.2.below (fun _ hb => .inl hb) h.2.2.2.2.1.size), h.2.2.2.2.2.1, Nat.lt_of_lt_of_le h.2.2.2.2.2.2 hs.2.size⟩
theorem MidR.next {w wr w' : World} {p g q m rb : Nat} {x : SS} {regs : List Nat} (h : MidR w p g q m rb x regs wr) (hb : Below wr.heap.size wr w') : MidR w p g q m rb x regs w' :=
  ⟨h.1.below hb, h.2.1.keep (hb.block rb h.2.2.2.2.2.2), h.2.2.1, h.2.2.2.1, h.2.2.2.2.1.trans (hb.mono h.2.2.2.2.1.size), h.2.2.2.2.2.1, Nat.lt_of_lt_of_le h.2.2.2.2.2.2 hb.size⟩
/-- A register is set. -/
theorem MidR.poke {w wr : World} {p g q m rb : Nat} {x : SS} {regs : List Nat} (h : MidR w p g q m rb x regs wr) (i y : Nat) (hy : y < 18446744073709551616) : MidR w p g q m rb x (regs.set i y) (wr.setCell ⟨rb, i, none⟩ (.int .u64 (y : Int))) := by
  obtain ⟨⟨h1, h1b, h1c⟩, h2, h3, h4, h5, h6, h7⟩ := h
  have hk := h2.set i y
  have hz := hk.2.size
  refine ⟨⟨?_, ?_, h1c⟩, by have := hk.1; rw [h3] at *; exact this, by rw [List.length_set]; exact h3, fun z hz2 => ?_, h5.setCell (p := ⟨rb, i, none⟩) h6 _, h6, Nat.lt_of_lt_of_le h7 hz⟩
  · obtain ⟨U, u1, u2, u3, u4⟩ := h1
    exact ⟨U, u1.keep hz fun b hl hU => hk.2.block b hl fun e => u2 b hU (.inl (.inr (Option.some.inj e))), u2, fun b hU => Nat.lt_of_lt_of_le (u3 b hU) hz, fun b hF => Nat.lt_of_lt_of_le (u4 b hF) hz⟩
  · refine (hk.2.block p (lt_of_heap h1b) fun e => ?_).trans h1b
    have e : p = rb := Option.some.inj e
    exact h1c (.inr e)
  · rcases List.mem_or_eq_of_mem_set hz2 with hz2 | rfl
    · exact h4 z hz2
    · exact hy
/-- The registers as a call's roots. -/
theorem MidR.roots {w wr : World} {p g q m rb : Nat} {x : SS} {regs : List Nat} (h : MidR w p g q m rb x regs wr) : WordsAt wr (fun b => b < w.heap.size ∨ b = rb) (some ⟨rb, 0, none⟩) 8 regs :=
  ⟨h.2.2.1, h.2.2.2.1, fun i hi => ⟨rb, 0, rfl, h.2.2.2.2.2.2, .inr rfl, by
    rw [Nat.zero_add]
    exact h.2.1.cell i (by rw [h.2.2.1]; exact hi)⟩⟩
/-- Other blocks have turned, which stand apart from the store's. -/
theorem SIn.beside {F G V : Nat → Prop} {w w' : World} {p g q m : Nat} {x : SS} (h : SIn F w p g q m x) (ht : Turned V w w') (hV : ∀ b, V b → F b) (hG : ∀ b, G b → F b ∨ (w.heap.size ≤ b ∧ b < w'.heap.size)) : SIn G w' p g q m x := by
  obtain ⟨⟨U, u1, u2, u3, u4⟩, h2, h3⟩ := h
  have hz := ht.size
  refine ⟨⟨U, u1.keep hz fun b hl hU => ht.block b hl fun hv => u2 b hU (.inl (hV b hv)), fun b hU hg => ?_, fun b hU => Nat.lt_of_lt_of_le (u3 b hU) hz, fun b hg => ?_⟩, (ht.block p (lt_of_heap h2) fun hv => h3 (hV p hv)).trans h2, fun hg => ?_⟩
  · rcases hg with hg | rfl
    · rcases hG b hg with hF | ⟨hw, _⟩
      · exact u2 b hU (.inl hF)
      · have := u3 b hU; omega
    · exact u2 b hU (.inr rfl)
  · rcases hg with hg | rfl
    · rcases hG b hg with hF | ⟨_, hw⟩
      · exact Nat.lt_of_lt_of_le (u4 b (.inl hF)) hz
      · exact hw
    · exact Nat.lt_of_lt_of_le (lt_of_heap h2) hz
  · rcases hG p hg with hF | ⟨hw, _⟩
    · exact h3 hF
    · have := lt_of_heap h2; omega
/-- The blocks that stand beside the store: what was there, the registers, the document's heap. -/
def Beside (w : World) (rb : Nat) (T : Nat → Prop) (b : Nat) : Prop := (b < w.heap.size ∨ b = rb) ∨ T b
structure MidP (w : World) (p g q m r rb : Nat) (x : SS) (K : List Ob) (regs : List Nat) (wr : World) (T : Nat → Prop) : Prop where
  store : SIn (Beside w rb T) wr p g q m x
  ref : RefAt wr r T m K
  row : Words wr 33 rb 8 regs
  len : regs.length = 8
  small : ∀ y ∈ regs, y < 18446744073709551616
  below : Below w.heap.size w wr
  new : w.heap.size ≤ rb
  rbl : rb < wr.heap.size
  apart : ∀ b, T b → w.heap.size ≤ b ∧ b ≠ rb ∧ b < wr.heap.size
theorem MidP.goS {w wr w' : World} {p g q m r rb : Nat} {x y : SS} {K : List Ob} {regs : List Nat} {T : Nat → Prop} (h : MidP w p g q m r rb x K regs wr T) (hs : SGo (Beside w rb T) p g q m y wr w') : MidP w p g q m r rb y K regs w' T :=
  ⟨hs.1, h.ref.keep fun b hl hT => hs.2.block b hl fun hn => hn (.inr hT), h.row.keep (hs.2.block rb h.rbl fun hn => hn (.inl (.inr rfl))), h.len, h.small, h.below.trans (hs.2.below (fun _ hb => .inl (.inl hb)) h.below.size), h.new, Nat.lt_of_lt_of_le h.rbl hs.2.size, fun b hT => ⟨(h.apart b hT).1, (h.apart b hT).2.1, Nat.lt_of_lt_of_le (h.apart b hT).2.2 hs.2.size⟩⟩
theorem MidP.next {w wr w' : World} {p g q m r rb : Nat} {x : SS} {K : List Ob} {regs : List Nat} {T : Nat → Prop} (h : MidP w p g q m r rb x K regs wr T) (hb : Below wr.heap.size wr w') : MidP w p g q m r rb x K regs w' T :=
  h.goS ⟨h.store.below hb, Stands.of_below hb⟩
theorem MidP.goR {w wr w' : World} {p g q m r rb : Nat} {x : SS} {K K' : List Ob} {regs : List Nat} {T : Nat → Prop} (h : MidP w p g q m r rb x K regs wr T) (hs : RStep r T m K' wr w') : ∃ T', MidP w p g q m r rb x K' regs w' T' := by
  have hz := hs.2.size
  refine ⟨fun b => (T b ∨ wr.heap.size ≤ b) ∧ b < w'.heap.size, ⟨h.store.beside hs.2 (fun b hT => .inr hT) (fun b hb => ?_), hs.1.bound, h.row.keep (hs.2.block rb h.rbl fun hT => (h.apart rb hT).2.1 rfl), h.len, h.small, ?_, h.new, Nat.lt_of_lt_of_le h.rbl hz, fun b hT => ?_⟩⟩
  · rcases hb with hb | ⟨hT | hw, hl⟩
    · exact .inl (.inl hb)
    · exact .inl (.inr hT)
    · exact .inr ⟨hw, hl⟩
  · exact h.below.trans ⟨hs.2.os, hs.2.tape, hs.2.output, hs.2.size, fun b hb => hs.2.block b (Nat.lt_of_lt_of_le hb h.below.size) fun hT => by have := (h.apart b hT).1; omega⟩
  · have h1 := h.below.size
    rcases hT.1 with hT1 | hw
    · exact ⟨(h.apart b hT1).1, (h.apart b hT1).2.1, hT.2⟩
    · exact ⟨by omega, by have := h.rbl; omega, hT.2⟩
theorem MidP.poke {w wr : World} {p g q m r rb : Nat} {x : SS} {K : List Ob} {regs : List Nat} {T : Nat → Prop} (h : MidP w p g q m r rb x K regs wr T) (i y : Nat) (hy : y < 18446744073709551616) : MidP w p g q m r rb x K (regs.set i y) (wr.setCell ⟨rb, i, none⟩ (.int .u64 (y : Int))) T := by
  have hk := h.row.set i y
  have hz := hk.2.size
  have ht : Turned (· = rb) wr (wr.setCell ⟨rb, i, none⟩ (.int .u64 (y : Int))) := (Turned.refl (· = rb) wr).setCell ⟨rb, i, none⟩ _ rfl
  refine ⟨h.store.beside ht (fun b hb => .inl (.inr hb)) (fun b hb => .inl hb), h.ref.keep fun b hl hT => ht.block b hl fun e => (h.apart b hT).2.1 e, hk.1, by rw [List.length_set]; exact h.len, fun z hz2 => ?_, h.below.setCell (p := ⟨rb, i, none⟩) h.new _, h.new, Nat.lt_of_lt_of_le h.rbl hz, fun b hT => ⟨(h.apart b hT).1, (h.apart b hT).2.1, Nat.lt_of_lt_of_le (h.apart b hT).2.2 hz⟩⟩
  rcases List.mem_or_eq_of_mem_set hz2 with hz2 | rfl
  · exact h.small z hz2
  · exact hy
theorem MidP.roots {w wr : World} {p g q m r rb : Nat} {x : SS} {K : List Ob} {regs : List Nat} {T : Nat → Prop} (h : MidP w p g q m r rb x K regs wr T) : WordsAt wr (Beside w rb T) (some ⟨rb, 0, none⟩) 8 regs :=
  ⟨h.len, h.small, fun i hi => ⟨rb, 0, rfl, h.rbl, .inl (.inr rfl), by
    rw [Nat.zero_add]
    exact h.row.cell i (by rw [h.len]; exact hi)⟩⟩
theorem MidP.tab {w wr : World} {p g q m r rb : Nat} {x : SS} {K : List Ob} {regs : List Nat} {T : Nat → Prop} (h : MidP w p g q m r rb x K regs wr T) (hT : Tab w) : Tab wr := hT.below h.below hT.lt
/-- What stands on some blocks still does when these are as they were. -/
def Keeps (R : World → (Nat → Prop) → Prop) : Prop := ∀ (w w' : World) (T : Nat → Prop), R w T → w.heap.size ≤ w'.heap.size → (∀ b, b < w.heap.size → T b → w'.heap[b]? = w.heap[b]?) → R w' T
structure MidX (R : World → (Nat → Prop) → Prop) (w : World) (p g q m rb : Nat) (x : SS) (regs : List Nat) (wr : World) (T : Nat → Prop) : Prop where
  store : SIn (Beside w rb T) wr p g q m x
  side : R wr T
  row : Words wr 33 rb 8 regs
  len : regs.length = 8
  small : ∀ y ∈ regs, y < 18446744073709551616
  below : Below w.heap.size w wr
  new : w.heap.size ≤ rb
  rbl : rb < wr.heap.size
  apart : ∀ b, T b → w.heap.size ≤ b ∧ b ≠ rb ∧ b < wr.heap.size
section
variable {R R' : World → (Nat → Prop) → Prop} {w wr w' : World} {p g q m rb : Nat} {x y : SS} {regs : List Nat} {T : Nat → Prop}
theorem MidX.goS (hk : Keeps R) (h : MidX R w p g q m rb x regs wr T) (hs : SGo (Beside w rb T) p g q m y wr w') : MidX R w p g q m rb y regs w' T :=
  ⟨hs.1, hk _ _ _ h.side hs.2.size fun b hl hT => hs.2.block b hl fun hn => hn (.inr hT), h.row.keep (hs.2.block rb h.rbl fun hn => hn (.inl (.inr rfl))), h.len, h.small, h.below.trans (hs.2.below (fun _ hb => .inl (.inl hb)) h.below.size), h.new, Nat.lt_of_lt_of_le h.rbl hs.2.size, fun b hT => ⟨(h.apart b hT).1, (h.apart b hT).2.1, Nat.lt_of_lt_of_le (h.apart b hT).2.2 hs.2.size⟩⟩
theorem MidX.next (hk : Keeps R) (h : MidX R w p g q m rb x regs wr T) (hb : Below wr.heap.size wr w') : MidX R w p g q m rb x regs w' T :=
  h.goS hk ⟨h.store.below hb, Stands.of_below hb⟩
theorem MidX.goR (h : MidX R w p g q m rb x regs wr T) (ht : Turned T wr w') (hr : R' w' (fun b => (T b ∨ wr.heap.size ≤ b) ∧ b < w'.heap.size)) : ∃ T', MidX R' w p g q m rb x regs w' T' := by
  have hz := ht.size
  refine ⟨fun b => (T b ∨ wr.heap.size ≤ b) ∧ b < w'.heap.size, ⟨h.store.beside ht (fun b hT => .inr hT) (fun b hb => ?_), hr, h.row.keep (ht.block rb h.rbl fun hT => (h.apart rb hT).2.1 rfl), h.len, h.small, ?_, h.new, Nat.lt_of_lt_of_le h.rbl hz, fun b hT => ?_⟩⟩
  · rcases hb with hb | ⟨hT | hw, hl⟩
    · exact .inl (.inl hb)
    · exact .inl (.inr hT)
    · exact .inr ⟨hw, hl⟩
  · exact h.below.trans ⟨ht.os, ht.tape, ht.output, ht.size, fun b hb => ht.block b (Nat.lt_of_lt_of_le hb h.below.size) fun hT => by have := (h.apart b hT).1; omega⟩
  · have h1 := h.below.size
    rcases hT.1 with hT1 | hw
    · exact ⟨(h.apart b hT1).1, (h.apart b hT1).2.1, hT.2⟩
    · exact ⟨by omega, by have := h.rbl; omega, hT.2⟩
theorem MidX.poke (hk : Keeps R) (h : MidX R w p g q m rb x regs wr T) (i y : Nat) (hy : y < 18446744073709551616) : MidX R w p g q m rb x (regs.set i y) (wr.setCell ⟨rb, i, none⟩ (.int .u64 (y : Int))) T := by
  have hr := h.row.set i y
  have hz := hr.2.size
  have ht : Turned (· = rb) wr (wr.setCell ⟨rb, i, none⟩ (.int .u64 (y : Int))) := (Turned.refl (· = rb) wr).setCell ⟨rb, i, none⟩ _ rfl
  refine ⟨h.store.beside ht (fun b hb => .inl (.inr hb)) (fun b hb => .inl hb), hk _ _ _ h.side hz fun b hl hT => ht.block b hl fun e => (h.apart b hT).2.1 e, hr.1, by rw [List.length_set]; exact h.len, fun z hz2 => ?_, h.below.setCell (p := ⟨rb, i, none⟩) h.new _, h.new, Nat.lt_of_lt_of_le h.rbl hz, fun b hT => ⟨(h.apart b hT).1, (h.apart b hT).2.1, Nat.lt_of_lt_of_le (h.apart b hT).2.2 hz⟩⟩
  rcases List.mem_or_eq_of_mem_set hz2 with hz2 | rfl
  · exact h.small z hz2
  · exact hy
theorem MidX.roots (h : MidX R w p g q m rb x regs wr T) : WordsAt wr (Beside w rb T) (some ⟨rb, 0, none⟩) 8 regs :=
  ⟨h.len, h.small, fun i hi => ⟨rb, 0, rfl, h.rbl, .inl (.inr rfl), by
    rw [Nat.zero_add]
    exact h.row.cell i (by rw [h.len]; exact hi)⟩⟩
theorem MidX.tab (h : MidX R w p g q m rb x regs wr T) (hT : Tab w) : Tab wr := hT.below h.below hT.lt
theorem MidX.at_ (h : MidX R w p g q m rb x regs wr T) (i : Nat) (hi : i < 8) : wr.cell? ⟨rb, i, none⟩ = some (.int .u64 (regs.getD i 0 : Nat)) ∧ wr.frozen? ⟨rb, i, none⟩ = false :=
  ⟨h.row.cell i (by rw [h.len]; exact hi), h.row.frozen i⟩
theorem MidX.mem (h : MidX R w p g q m rb x regs wr T) (i : Nat) (hi : i < 8) : regs.getD i 0 < 18446744073709551616 :=
  h.small _ (getD_mem (by rw [h.len]; exact hi))
theorem sx_Alloc (hk : Keeps R) (hT : Tab w) (h : MidX R w p g q m rb x regs wr T) (hc : x.cy ≤ 100000000) (kd n : Int) :
    Calls Tryz.prog 9 #[.pointer (some ⟨p, 0, none⟩), .int .i64 kd, .int .i64 n, .slice (some ⟨rb, 0, none⟩) 8 8] wr (fun e w' => e = .returned (.tuple #[.int .u64 ((x.alloc m kd n regs).1 : Nat), .int .i64 (x.alloc m kd n regs).2.1]) ∧ MidX R w p g q m rb (x.alloc m kd n regs).2.2 regs w' T) := by
  refine (st_Alloc (Beside w rb T) p g q m _ wr h.store (h.tab hT) (.inl (.inl hT.lt)) hc kd n (some ⟨rb, 0, none⟩) 8 8 regs h.roots (by omega)).mono ?_
  rintro e w' ⟨rfl, hs⟩
  exact ⟨rfl, h.goS hk hs⟩
theorem sx_Set (hk : Keeps R) (h : MidX R w p g q m rb x regs wr T) (v : Nat) (hv : v < 18446744073709551616) (i : Int) (y : Nat) (hy : y < 18446744073709551616) :
    Calls Tryz.prog 11 #[.pointer (some ⟨p, 0, none⟩), .int .u64 (v : Int), .int .i64 i, .int .u64 (y : Int)] wr (fun e w' => e = .returned (.int .i64 (x.s.write (addrW v : Nat) i y).1) ∧ MidX R w p g q m rb ⟨(x.s.write (addrW v : Nat) i y).2, x.cy⟩ regs w' T) := by
  refine (st_Set (Beside w rb T) p g q m _ wr h.store v hv i y hy).mono ?_
  rintro e w' ⟨rfl, hs⟩
  exact ⟨rfl, h.goS hk hs⟩
theorem sx_Pick (hk : Keeps R) (hT : Tab w) (h : MidX R w p g q m rb x regs wr T) (hc : x.cy ≤ 1000000000) :
    Calls Tryz.prog 15 #[.pointer (some ⟨p, 0, none⟩), .slice (some ⟨rb, 0, none⟩) 8 8] wr (fun e w' => e = .returned (.tuple #[]) ∧ MidX R w p g q m rb (x.pick regs) regs w' T) := by
  refine (st_Pick (Beside w rb T) p g q m x wr h.store (h.tab hT) hc (some ⟨rb, 0, none⟩) 8 8 regs h.roots (by decide)).mono ?_
  rintro e w' ⟨rfl, hs⟩
  exact ⟨rfl, h.goS hk hs⟩
theorem sx_Get (hk : Keeps R) (h : MidX R w p g q m rb x regs wr T) (v : Nat) (hv : v < 18446744073709551616) (i : Int) :
    Calls Tryz.prog 13 #[.pointer (some ⟨p, 0, none⟩), .int .u64 (v : Int), .int .i64 i] wr (fun e w' => e = .returned (.tuple #[.int .u64 ((hGet x.s.L (addrW v : Nat) i).1 : Nat), .int .i64 (hGet x.s.L (addrW v : Nat) i).2]) ∧ MidX R w p g q m rb x regs w' T ∧ Below wr.heap.size wr w') :=
  (st_Get (Beside w rb T) p g q m x wr h.store v hv i).mono fun _ _ ⟨he, hb⟩ => ⟨he, h.next hk hb, hb⟩
end
end Go.Proofs.YtdkbgdjkdalalaaGreatDoor
