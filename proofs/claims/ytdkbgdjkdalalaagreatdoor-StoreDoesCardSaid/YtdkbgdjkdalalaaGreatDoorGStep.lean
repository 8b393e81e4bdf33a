/-
  The walks of the collector's calls that change it.
-/
import Derived.Test.YtdkbgdjkdalalaaGreatDoorGMem
namespace Go.Proofs.YtdkbgdjkdalalaaGreatDoor
open Go.RowKit
def GDone (g q : Nat) (U : Nat → Prop) (words : Nat) (s : GS) (w : World) (e : Ending) (w' : World) : Prop := e = .returned (.tuple #[]) ∧ GStep g q U words s w w'
/-- The heap's blocks that are there. -/
theorem GMem.bound {w : World} {g q words : Nat} {U : Nat → Prop} {s : GS} {X S : Nat → Prop} {c : Nat} {cs Q : List Nat} (h : GMem w g q U words s X S c cs Q) : c < w.heap.size ∧ g < w.heap.size := ⟨h.cols.lt, h.queue.lt⟩
theorem GMem.c_ne {w : World} {g q words : Nat} {U : Nat → Prop} {s : GS} {X S : Nat → Prop} {c : Nat} {cs Q : List Nat} (h : GMem w g q U words s X S c cs Q) : g ≠ c := by
  obtain ⟨_, h1⟩ := h.queue.block
  obtain ⟨_, h2⟩ := h.cols.block
  exact blocks_ne h1 h2 (by decide)
/-- A colour is set. -/
theorem GMem.paint {w : World} {g q words : Nat} {U : Nat → Prop} {s : GS} {X S : Nat → Prop} {c : Nat} {cs Q : List Nat} (h : GMem w g q U words s X S c cs Q) (a k : Nat) (Y : Nat → Prop) (ha : a < words) (hX : ∀ b, ¬ Y b → b ≠ a → ¬ X b) (hY : ¬ Y a → IsIn s.L a → colorOf s a = k) :
    GMem (w.setCell ⟨c, a, none⟩ (.int .u8 (k : Nat))) g q U words s Y S c (cs.set a k) Q ∧ Turned U w (w.setCell ⟨c, a, none⟩ (.int .u8 (k : Nat))) := by
  obtain ⟨h1, h2⟩ := h.cols.set a k
  have hz := h2.size
  refine ⟨⟨h.heap.keep fun b hl hS => h2.block b hl (fun e => h.cS (by rw [← Option.some.inj e]; exact hS)), ?_, h1, by rw [List.length_set]; exact h.clen, h.small, fun b hb hn => ?_, h.ordered, h.same, h.inv, h.inU, h.gU, h.cU, h.gS, h.cS, fun b hS => Nat.lt_of_lt_of_le (h.sb b hS) hz⟩, ?_⟩
  · exact h.queue.keep (heap_setCell_other w _ g _ h.c_ne) fun b hl hR _ => h2.block b hl (fun e => hR.2.2 (Option.some.inj e))
  · rw [getD_set_nat]
    by_cases he : b = a
    · subst he
      rw [if_pos ⟨rfl, by rw [h.clen]; exact ha⟩]
      exact (hY hn hb).symm
    · rw [if_neg fun hx => he hx.1]
      exact h.col b hb (hX b hn he)
  · exact (Turned.of_grown h2).mono fun b hb => by rw [hb]; exact h.cU
/-- The queue has changed, and what it stands for. -/
theorem GMem.queued {w w' : World} {g q words : Nat} {U : Nat → Prop} {s t : GS} {X Y S : Nat → Prop} {c : Nat} {cs Q Q' : List Nat} (h : GMem w g q U words s X S c cs Q)
    (hq : QStep g (fun b => U b ∧ ¬ S b ∧ b ≠ c) (.pointer (some ⟨q, 0, none⟩)) (.int .i64 (s.ph : Nat)) (.slice (some ⟨c, 0, none⟩) words words) (.int .i64 (s.pos : Nat)) Q' w w') (ho : HeapQ Q') (hp : Q'.Perm t.G)
    (hL : t.L = s.L) (hph : t.ph = s.ph) (hpos : t.pos = s.pos) (hi : GInv words t) (hc : ∀ a, IsIn s.L a → ¬ Y a → cs.getD a 0 = colorOf t a) : GMem w' g q (fun b => U b ∨ w.heap.size ≤ b) words t Y S c cs Q' ∧ Turned U w w' := by
  obtain ⟨h1, h2⟩ := hq
  have hz := h2.size
  have hkeep : ∀ b, b < w.heap.size → (b ≠ g ∧ ¬ (U b ∧ ¬ S b ∧ b ≠ c)) → w'.heap[b]? = w.heap[b]? := fun b hl hn => h2.block b hl fun hx => by
    rcases hx with hx | hx
    · exact hn.1 hx
    · exact hn.2 hx
  have hb := h.bound
  refine ⟨⟨?_, ?_, ?_, h.clen, h.small, fun a ha hn => hc a (hL ▸ ha) hn, ho, hp, hi, fun b hS => .inl (h.inU b hS), .inl h.gU, .inl h.cU, h.gS, h.cS, fun b hS => Nat.lt_of_lt_of_le (h.sb b hS) hz⟩, h2.mono ?_⟩
  · rw [hL]
    exact h.heap.keep fun b hl hS => hkeep b hl ⟨fun e => h.gS (e ▸ hS), fun hx => hx.2.1 hS⟩
  · rw [hph, hpos]
    refine h1.mono fun b _ hR => ?_
    rcases hR with hR | hR
    · exact ⟨.inl hR.1, hR.2⟩
    · exact ⟨.inr hR, fun hS => by have := h.sb b hS; omega, by have := hb.1; omega⟩
  · exact h.cols.keep (hkeep c hb.1 ⟨fun e => h.c_ne e.symm, fun hx => hx.2.2 rfl⟩)
  · rintro b (rfl | hR)
    · exact h.gU
    · exact hR.1
theorem shade_color {s : GS} {x a : Nat} (hw : s.White (addrW x)) (_hin : IsIn s.L a) : colorOf (s.shade x) a = if a = addrW x then 1 else colorOf s a := by
  unfold GS.shade
  rw [if_pos hw]
  unfold colorOf
  simp only [List.mem_append, List.mem_singleton]
  by_cases h : a = addrW x
  · simp [h]
  · simp [h]
set_option maxHeartbeats 1000000 in
theorem shade_any (g q words : Nat) (U : Nat → Prop) (s : GS) (w : World) (h : GAt w g q U words s) (hp : s.ph = 1) (x : Nat) (hx : x < 18446744073709551616) :
    Calls Tryz.prog 67 #[.pointer (some ⟨g, 0, none⟩), .int .u64 (x : Int)] w (GDone g q U words (s.shade x) w) := by
  have HA := Lib.hid (addr_any x hx w)
  have HW := Lib.hid (white_any g q words U s w h (addrW x : Nat))
  rw [Int.toNat_natCast] at HW
  by_cases hw : s.White (addrW x)
  · rw [decide_eq_true ⟨by omega, hw⟩] at HW
    obtain ⟨S, c, cs, Q, hm⟩ := h
    have hr := isIn_range hm.inv.lies hw.1
    obtain ⟨_, _, k2, _⟩ := hm.queue.head
    have hf := hm.cols.frozen (addrW x)
    have kc := hm.cols.cell (addrW x) (by rw [hm.clen]; omega)
    have g1 : ((addrW x : Nat) : Int) < (words : Int) := by omega
    obtain ⟨hm1, ht1⟩ := hm.paint (addrW x) 1 (· = addrW x) hr.2 (fun b _ _ hF => hF) (fun hn => absurd rfl hn)
    have hlen : Q.length ≤ 65536 := by
      have h1 := hm.same.length_eq
      have h2 := nodup_le (m := s.L.map Ob.at_) hm.inv.gnd (fun a ha => by
        obtain ⟨o, ho⟩ := isIn_some (hm.inv.gin a ha)
        have h2 := find_mem ho
        exact List.mem_map.2 ⟨o, h2.1, h2.2⟩)
      have h3 := lies_len hm.inv.lies hm.small
      simp only [List.length_map] at h2
      omega
    have HP := Lib.hid (push_any g _ _ _ _ _ Q (addrW x) _ hm1.queue hm1.ordered hlen)
    have HE : Hid (∀ w', Pushed g (fun b => U b ∧ ¬ S b ∧ b ≠ c) (.pointer (some ⟨q, 0, none⟩)) (.int .i64 (s.ph : Nat)) (.slice (some ⟨c, 0, none⟩) words words) (.int .i64 (s.pos : Nat)) (Q ++ [addrW x]) (w.setCell ⟨c, addrW x, none⟩ (.int .u8 (1 : Nat))) (.returned (.tuple #[])) w' → GStep g q U words (s.shade x) w w') := Lib.hid (by
      rintro w' ⟨_, Q', hq, ho, hpm⟩
      have hsm := shade_same s x
      obtain ⟨j1, j2⟩ := hm1.queued (t := s.shade x) (Y := fun _ => False) hq ho (hpm.trans (by
        unfold GS.shade
        rw [if_pos hw]
        exact hm.same.append_right _)) hsm.1 hsm.2.1 hsm.2.2.2 (hm.inv.shade hp x) (fun a ha _ => by
        rw [shade_color hw ha, getD_set_nat]
        by_cases he : a = addrW x
        · rw [if_pos he, if_pos ⟨he, by rw [hm.clen]; exact hr.2⟩]
        · rw [if_neg he, if_neg fun hx => he hx.1]
          exact hm.col a ha (not_false_X a))
      refine ⟨⟨S, c, _, Q', j1.mono ?_⟩, ht1.then j2 fun i hi => .inl hi⟩
      rintro b (hU | hb)
      · exact .inl hU
      · exact .inr (Nat.le_trans ht1.size hb))
    clear hm hw hm1 ht1 hlen hr
    generalize addrW x = a at *
    generalize cs.getD a 0 = y at *
    go_enter Tryz.func67, Tryz.ntmps67
    go_wp2_with fail
    refine HA.out.mono ?_
    rintro e w' ⟨rfl, rfl⟩
    go_wp2_with fail
    refine HW.out.mono ?_
    rintro e w' ⟨rfl, rfl⟩
    go_wp2_with fail
    refine HP.out.mono ?_
    rintro e w' hpd
    obtain rfl := hpd.1
    have HG := Lib.hid (HE.out w' hpd)
    clear hpd
    go_wp2_with fail
    go_end0
    exact ⟨rfl, HG.out⟩
  · rw [decide_eq_false fun hx => hw hx.2] at HW
    have HG : Hid (GStep g q U words (s.shade x) w w) := Lib.hid (by
      unfold GS.shade
      rw [if_neg hw]
      exact .stay h)
    clear h hw
    go_enter Tryz.func67, Tryz.ntmps67
    go_wp2_with fail
    refine HA.out.mono ?_
    rintro e w' ⟨rfl, rfl⟩
    go_wp2_with fail
    refine HW.out.mono ?_
    rintro e w' ⟨rfl, rfl⟩
    go_wp2_with fail
    go_end0
    exact ⟨rfl, HG.out⟩
end Go.Proofs.YtdkbgdjkdalalaaGreatDoor
