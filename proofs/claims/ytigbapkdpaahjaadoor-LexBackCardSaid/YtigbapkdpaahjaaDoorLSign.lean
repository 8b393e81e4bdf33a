/-
  Lex: the walks of readSign and read: what stands first. Condition: the variable of the signs holds what its initialiser lays.
-/
import Derived.Test.YtigbapkdpaahjaaDoorLRead
import Derived.Test.YtigbapkdpaahjaaDoorUnquoteW
import Derived.BigQuiet
import Derived.Deep.CutBlock
namespace Go.Proofs.YtigbapkdpaahjaaDoor
open Go.RowKit
/-- The variable of the signs is as its initialiser lays it. -/
def Syms (w : World) : Prop := 0 < w.heap.size ∧ ∃ b off c, w.cell? ⟨0, 0, none⟩ = some (.slice (some ⟨b, off, none⟩) 20 c) ∧ b < w.heap.size ∧ ∀ i, i < 20 → w.cell? ⟨b, off + i, none⟩ = some (.string ⟨(signL.getD i []).toArray⟩)
theorem Syms.below {w w' : World} (h : Syms w) (hb : Below w.heap.size w w') : Syms w' := by
  obtain ⟨h1, b, off, c, h2, h3, h4⟩ := h
  exact ⟨Nat.lt_of_lt_of_le h1 hb.size, b, off, c, (hb.cell (p := ⟨0, 0, none⟩) h1).trans h2, Nat.lt_of_lt_of_le h3 hb.size, fun i hi => (hb.cell (p := ⟨b, off + i, none⟩) h3).trans (h4 i hi)⟩
theorem find_at {α : Type} (p : α → Bool) (d : α) : ∀ (l : List α) (i : Nat), (∀ j, j < i → p (l.getD j d) = false) → i < l.length → p (l.getD i d) = true → l.find? p = some (l.getD i d)
  | [], i, _, h, _ => by simp at h
  | x :: l, 0, _, _, h => by rw [List.find?_cons, show p x = true from h]; rfl
  | x :: l, i + 1, h0, h1, h2 => by
    rw [List.find?_cons, show p x = false from h0 0 (by omega)]
    exact find_at p d l i (fun j hj => h0 (j + 1) (by omega)) (by simpa using h1) h2
theorem find_no {α : Type} (p : α → Bool) (d : α) (l : List α) (h : ∀ j, j < l.length → p (l.getD j d) = false) : l.find? p = none := by
  rw [List.find?_eq_none]
  intro x hx
  obtain ⟨j, hj, rfl⟩ := List.getElem_of_mem hx
  have := h j hj
  rw [List.getD_eq_getElem?_getD, List.getElem?_eq_getElem hj] at this
  simpa using this
theorem sign_size : ∀ i, i < 20 → (signL.getD i []).length ≤ 2 := by decide
def NoSign (l : List UInt8) (i : Nat) : Prop := ∀ j, j < i → (signL.getD j []).isPrefixOf l = false
set_option maxRecDepth 100000 in
set_option maxHeartbeats 2000000 in
theorem lex_readSign (s : ByteArray) (w : World) (hy : Syms w) : Calls Tryd.prog 28 #[.string s] w (OneIs (signTok s.data.toList) w) := by
  have HD := Lib.hid (TokBox.new w)
  have HW := Lib.hid (below_tok w)
  obtain ⟨hg, b, off, c, k0, hbl, hk⟩ := hy.below HW.out
  have HK := Lib.hid hk
  have hwl : w.heap.size < (w.alloc (.cells #[.int .i64 0, .int .i64 0, .string ⟨#[]⟩, .int .i64 0] 31 (0, 0))).heap.size := by simp
  have HSY : Hid (∀ i, i < 20 → NoSign s.data.toList i → (signL.getD i []).isPrefixOf s.data.toList = true → signTok s.data.toList = .tok ⟨7, signL.getD i [], 0⟩ (signL.getD i []).length) := Lib.hid (fun i hi hn hp => by
    unfold signTok
    rw [show signL.find? (·.isPrefixOf s.data.toList) = some (signL.getD i []) from find_at _ [] signL i (fun j hj => hn j hj) hi hp])
  have HSN : Hid (NoSign s.data.toList 20 → signTok s.data.toList = .err 20) := Lib.hid (fun hn => by
    unfold signTok
    rw [show signL.find? (·.isPrefixOf s.data.toList) = none from find_no _ [] signL (fun j hj => hn j hj)])
  generalize signTok s.data.toList = rr at *
  clear hk hy
  go_enter Tryd.func28, Tryd.ntmps28
  go_upto_region 1 with fail
  generalize w.alloc (.cells #[.int .i64 0, .int .i64 0, .string ⟨#[]⟩, .int .i64 0] 31) = w0 at *
  go_wp2_with fail
  go_loopw [9] (fun vi wr => ∃ i : Nat, i ≤ 20 ∧ vi = .int .i64 i ∧ wr = w0 ∧ Hid (NoSign s.data.toList i)) (fun vi _ => 20 - (intOf vi).toNat)
  case atStart => exact ⟨0, by omega, by go_num, rfl, Lib.hid (fun j hj => absurd hj (by omega))⟩
  case round =>
    obtain ⟨i, hi, rfl, rfl, HN⟩ := hrel
    by_cases hi2 : i < 20
    · have g1 : decide ((i : Int) < 20) = true := decide_eq_true (by omega)
      have g2 : (i : Int) < 20 := by omega
      have g3 : (0 : Int) ≤ (i : Int) := by omega
      have k1 := HK.out i hi2
      have HP := Lib.hid (fun W => Tryd.strings_HasPrefix s ⟨(signL.getD i []).toArray⟩ W)
      have HS1 := Lib.hid (HSY.out i hi2 HN.out)
      have HN2 : Hid ((signL.getD i []).isPrefixOf s.data.toList = false → NoSign s.data.toList (i + 1)) := Lib.hid (fun hf j hj => by
        rcases Nat.lt_or_eq_of_le (Nat.le_of_lt_succ hj) with h1 | rfl
        · exact HN.out j h1
        · exact hf)
      have hz := sign_size i hi2
      have HT := Lib.hid (fun W => lex_text 7 ⟨(signL.getD i []).toArray⟩ W (by show (signL.getD i []).toArray.size ≤ _; rw [List.size_toArray]; omega))
      have hsz : (⟨(signL.getD i []).toArray⟩ : ByteArray).size = (signL.getD i []).length := by show (signL.getD i []).toArray.size = _; rw [List.size_toArray]
      generalize signL.getD i [] = l at *
      cases hp : l.isPrefixOf s.data.toList with
      | true =>
        have HR := Lib.hid (HS1.out hp)
        clear HS1 HN2
        go_wp2_with fail
        refine (HP.out _).mono ?_
        rintro e w' ⟨rfl, rfl⟩
        have hpp : Lib.hasPrefix s.data.toList (⟨l.toArray⟩ : ByteArray).data.toList = true := hp
        rw [hpp]
        clear hpp hp
        go_wp2_with fail
        refine (HT.out _).mono ?_
        rintro e w1 ⟨rfl, hb1⟩
        have HB3 := Lib.hid (HW.out.trans (hb1.mono HW.out.size))
        have hn := HD.out.below hb1 hwl
        obtain ⟨c0, c1, c2, c3, cf⟩ := hn.cells
        have f0 := cf 0
        have f1 := cf 1
        have f2 := cf 2
        have f3 := cf 3
        have hl := box_lt hn
        have HNN := Lib.hid hn
        clear hn cf hb1
        unfold tokAgg
        go_wp2_with fail
        have HS := Lib.hid (tok_stored HNN.out HB3.out (Nat.le_refl _) 7 0 ⟨l.toArray⟩ 0 rfl)
        unfold tokSet at HS
        generalize World.setCell _ _ _ = w9 at *
        obtain ⟨d0, d1, d2, d3, _⟩ := HS.out.1.cells
        exact bodyPost_ret (v := .tuple #[tokAgg 7 0 l 0, .int .i64 l.length, .int .i64 0]) (by simp [results, Tryd.results28, go_sem, d0, d1, d2, d3, tokAgg]) rfl (oneIs_tok HR.out ⟨rfl, HS.out.2⟩ rfl)
      | false =>
        have HNX := Lib.hid (HN2.out hp)
        clear HS1 HN2
        go_wp2_with fail
        refine (HP.out _).mono ?_
        rintro e w' ⟨rfl, rfl⟩
        have hpp : Lib.hasPrefix s.data.toList (⟨l.toArray⟩ : ByteArray).data.toList = false := hp
        rw [hpp]
        clear hpp hp
        go_wp2_with fail
        go_roundw
        case rel => exact ⟨i + 1, by omega, by go_num, by trivial, HNX⟩
        case measure => simp [intOf]; omega
    · have g1 : decide ((i : Int) < 20) = false := decide_eq_false (by omega)
      obtain rfl : i = 20 := by omega
      have HR := Lib.hid (HSN.out HN.out)
      obtain ⟨c0, c1, c2, c3, cf⟩ := HD.out.cells
      have f0 := cf 0
      have f1 := cf 1
      have f2 := cf 2
      have f3 := cf 3
      clear cf
      go_wp2_with fail
      have HS := Lib.hid (tok_stored HD.out HW.out (Nat.le_refl _) 0 0 ⟨#[]⟩ 0 rfl)
      unfold tokSet at HS
      generalize World.setCell _ _ _ = w9 at *
      obtain ⟨d0, d1, d2, d3, _⟩ := HS.out.1.cells
      exact bodyPost_ret (v := .tuple #[tokAgg 0 0 [] 0, .int .i64 0, .int .i64 20]) (by simp [results, Tryd.results28, go_sem, d0, d1, d2, d3, tokAgg]) rfl (oneIs_err HR.out ⟨rfl, HS.out.2⟩ rfl)
/-- The rune at hand: the byte itself, or both are beyond ASCII. -/
def RuneOf (x : Nat) (c : UInt8) : Prop := (x = c.toNat ∧ c.toNat < 128) ∨ (128 ≤ x ∧ 128 ≤ c.toNat)
theorem RuneOf.same {x : Nat} {c : UInt8} (h : RuneOf x c) : lowN x = isLow c ∧ upN x = isUp c ∧ digN x = isDig c ∧ ((x : Int) == 35) = decide (c = 35) ∧ ((x : Int) == 34) = decide (c = 34) ∧ ((x : Int) == 32) = decide (c = 32) ∧ ((x : Int) == 10) = decide (c = 10) := by
  rcases h with ⟨rfl, h⟩ | ⟨h1, h2⟩
  · have hb : ∀ n : Nat, n < 256 → ((c.toNat : Int) == (n : Int)) = decide (c = UInt8.ofNat n) := fun n hn => by
      by_cases hc : c = UInt8.ofNat n
      · rw [decide_eq_true hc]; exact (byte_eq hn).2 hc
      · rw [decide_eq_false hc]; exact (byte_ne hn).2 hc
    exact ⟨rfl, rfl, rfl, hb 35 (by decide), hb 34 (by decide), hb 32 (by decide), hb 10 (by decide)⟩
  · obtain ⟨a1, a2, a3, _⟩ := body_high x h1
    obtain ⟨b1, b2, b3, _⟩ := body_high c.toNat h2
    have hn : ∀ n : Nat, n < 128 → ((x : Int) == (n : Int)) = decide (c = UInt8.ofNat n) := fun n hn => by
      rw [beq_eq_false_iff_ne.2 (by omega), decide_eq_false]
      rintro rfl
      simp only [UInt8.toNat_ofNat'] at h2
      omega
    exact ⟨a1.trans b1.symm, a2.trans b2.symm, a3.trans b3.symm, hn 35 (by decide), hn 34 (by decide), hn 32 (by decide), hn 10 (by decide)⟩
theorem oneIs_size {r : OneR} {w : World} {e : Ending} {w' : World} (h : OneIs r w e w') : ∃ (t : TK) (n : Nat) (er : Int), e = .returned (.tuple #[tokAgg t.kind 0 t.text t.n, .int .i64 n, .int .i64 er]) ∧ Below w.heap.size w w' ∧ ((er = 0 ∧ r = .tok t n) ∨ (r = .err er ∧ t = ⟨0, [], 0⟩ ∧ n = 0)) := by
  cases r with
  | tok t n => exact ⟨t, n, 0, h.1, h.2, .inl ⟨rfl, rfl⟩⟩
  | err e => exact ⟨⟨0, [], 0⟩, 0, e, h.1, h.2, .inr ⟨rfl, rfl, rfl⟩⟩
/-- Beside the box of its named result a reader is called: what is stored into the box is what it gave. -/
theorem oneIs_box {rr : OneR} {w w1 w2 : World} {e : Ending} (h : OneIs rr w1 e w2) (hb : Below w.heap.size w w1) : OneIs rr w e w2 := by
  cases rr with
  | tok t n => exact ⟨h.1, hb.trans (h.2.mono hb.size)⟩
  | err e => exact ⟨h.1, hb.trans (h.2.mono hb.size)⟩
theorem head_cons {s : ByteArray} {c : UInt8} {r : List UInt8} (h : s.data.toList = c :: r) : 1 ≤ s.size := by
  have : s.data.toList.length = s.size := rfl
  rw [h] at this
  simp at this; omega
set_option maxRecDepth 100000 in
set_option maxHeartbeats 4000000 in
theorem lex_read (s : ByteArray) (x : Nat) (w : World) (hs : s.size ≤ 65536) (hy : Syms w) (c : UInt8) (r : List UInt8) (hc : s.data.toList = c :: r) (hx : RuneOf x c) : Calls Tryd.prog 15 #[.string s, .int .i32 x] w (OneIs (oneV s.data.toList) w) := by
  have HD := Lib.hid (TokBox.new w)
  have HW := Lib.hid (below_tok w)
  have HSY := Lib.hid (hy.below HW.out)
  obtain ⟨h1, h2, h3, h4, h5, _⟩ := hx.same
  have HL := Lib.hid (fun W => lex_low x W)
  have HU := Lib.hid (fun W => lex_up x W)
  have HG := Lib.hid (fun W => lex_dig x W)
  rw [h1] at HL
  rw [h2] at HU
  rw [h3] at HG
  have HWL : Hid (w.heap.size < (w.alloc (.cells #[.int .i64 0, .int .i64 0, .string ⟨#[]⟩, .int .i64 0] 31 (0, 0))).heap.size) := Lib.hid (by simp)
  have HO := Lib.hid (show oneV s.data.toList = _ by rw [hc, oneV_cons, ← hc])
  have HH := Lib.hid (show s.data.toList.head? = some c by rw [hc]; rfl)
  have HT := Lib.hid (show s.data.toList.drop 1 = r by rw [hc]; rfl)
  have hs1 := head_cons hc
  clear hc hy hx h1 h2 h3
  generalize hrr : oneV s.data.toList = rr at *
  clear hrr
  go_enter Tryd.func15, Tryd.ntmps15
  go_upto_region 1 with fail
  generalize w.alloc (.cells #[.int .i64 0, .int .i64 0, .string ⟨#[]⟩, .int .i64 0] 31 (0, 0)) = w0 at *
  have HFIN : Hid (∀ (W1 : World) (e : Ending), OneIs rr w0 e W1 → ∃ (t : TK) (n : Nat) (er : Int), e = .returned (.tuple #[tokAgg t.kind 0 t.text t.n, .int .i64 n, .int .i64 er]) ∧ TokBox W1 w.heap.size 0 0 ⟨#[]⟩ 0 ∧ Below w.heap.size w W1 ∧ ∀ W2, Below w.heap.size w W2 → OneIs rr w (.returned (.tuple #[tokAgg t.kind 0 t.text t.n, .int .i64 n, .int .i64 er])) W2) := Lib.hid (fun W1 e ho => by
    obtain ⟨t, n, er, rfl, hb, hor⟩ := oneIs_size ho
    refine ⟨t, n, er, rfl, HD.out.below hb HWL.out, HW.out.trans (hb.mono HW.out.size), fun W2 hb2 => ?_⟩
    rcases hor with ⟨rfl, rfl⟩ | ⟨rfl, rfl, rfl⟩
    · exact ⟨rfl, hb2⟩
    · exact ⟨rfl, hb2⟩)
  go_wp2_with fail
  refine (HL.out _).mono ?_
  rintro e w' ⟨rfl, rfl⟩
  cases hlow : isLow c with
  | true =>
    have HB : Hid (Calls Tryd.prog 21 #[.string s] w0 (OneIs rr w0)) := Lib.hid (by
      have h := lex_readName s w0 hs
      have ho := HO.out
      rw [if_pos hlow] at ho
      rw [ho]; exact h)
    clear hlow
    clear HL HU HG HO HH HT HSY HD HW HWL
    go_wp2_with fail
    refine HB.out.mono ?_
    rintro e W1 ho
    obtain ⟨t, n, er, rfl, hbox, hbw, hfin⟩ := HFIN.out W1 e ho
    obtain ⟨tk, tt, tn⟩ := t
    have HF := Lib.hid hfin
    have HN := Lib.hid hbox
    have HW1 := Lib.hid hbw
    obtain ⟨c0, c1, c2, c3, cf⟩ := hbox.cells
    have f0 := cf 0
    have f1 := cf 1
    have f2 := cf 2
    have f3 := cf 3
    have hl := box_lt hbox
    clear ho hfin hbox hbw cf HFIN HB
    unfold tokAgg
    go_wp2_with fail
    have HS := Lib.hid (tok_stored HN.out HW1.out (Nat.le_refl _) tk 0 ⟨tt.toArray⟩ tn rfl)
    unfold tokSet at HS
    generalize World.setCell _ _ _ = w9 at *
    obtain ⟨d0, d1, d2, d3, _⟩ := HS.out.1.cells
    exact bodyPost_ret (v := .tuple #[tokAgg tk 0 tt tn, .int .i64 n, .int .i64 er]) (by simp [results, Tryd.results15, go_sem, d0, d1, d2, d3, tokAgg]) rfl (HF.out _ HS.out.2)
  | false =>
    go_wp2_with fail
    refine (HU.out _).mono ?_
    rintro e w' ⟨rfl, rfl⟩
    cases hup : isUp c with
    | true =>
      have HB : Hid (Calls Tryd.prog 23 #[.string s] w0 (OneIs rr w0)) := Lib.hid (by
        have h := lex_readUpper s w0 hs
        have ho := HO.out
        rw [if_neg (by rw [hlow]; decide), if_pos hup] at ho
        rw [ho]; exact h)
      clear hlow hup
      clear HL HU HG HO HH HT HSY HD HW HWL
      go_wp2_with fail
      refine HB.out.mono ?_
      rintro e W1 ho
      obtain ⟨t, n, er, rfl, hbox, hbw, hfin⟩ := HFIN.out W1 e ho
      obtain ⟨tk, tt, tn⟩ := t
      have HF := Lib.hid hfin
      have HN := Lib.hid hbox
      have HW1 := Lib.hid hbw
      obtain ⟨c0, c1, c2, c3, cf⟩ := hbox.cells
      have f0 := cf 0
      have f1 := cf 1
      have f2 := cf 2
      have f3 := cf 3
      have hl := box_lt hbox
      clear ho hfin hbox hbw cf HFIN HB
      unfold tokAgg
      go_wp2_with fail
      have HS := Lib.hid (tok_stored HN.out HW1.out (Nat.le_refl _) tk 0 ⟨tt.toArray⟩ tn rfl)
      unfold tokSet at HS
      generalize World.setCell _ _ _ = w9 at *
      obtain ⟨d0, d1, d2, d3, _⟩ := HS.out.1.cells
      exact bodyPost_ret (v := .tuple #[tokAgg tk 0 tt tn, .int .i64 n, .int .i64 er]) (by simp [results, Tryd.results15, go_sem, d0, d1, d2, d3, tokAgg]) rfl (HF.out _ HS.out.2)
    | false =>
      cases h35 : decide (c = 35) with
      | true =>
        have HB : Hid (Calls Tryd.prog 24 #[.string s] w0 (OneIs rr w0)) := Lib.hid (by
          have h := lex_readTag s w0 hs hs1
          have ho := HO.out
          rw [if_neg (by rw [hlow]; decide), if_neg (by rw [hup]; decide), if_pos (of_decide_eq_true h35), ← HT.out] at ho
          rw [ho]; exact h)
        rw [h35] at h4
        clear hlow hup h35
        clear HL HU HG HO HH HT HSY HD HW HWL
        go_wp2_with fail
        refine HB.out.mono ?_
        rintro e W1 ho
        obtain ⟨t, n, er, rfl, hbox, hbw, hfin⟩ := HFIN.out W1 e ho
        obtain ⟨tk, tt, tn⟩ := t
        have HF := Lib.hid hfin
        have HN := Lib.hid hbox
        have HW1 := Lib.hid hbw
        obtain ⟨c0, c1, c2, c3, cf⟩ := hbox.cells
        have f0 := cf 0
        have f1 := cf 1
        have f2 := cf 2
        have f3 := cf 3
        have hl := box_lt hbox
        clear ho hfin hbox hbw cf HFIN HB
        unfold tokAgg
        go_wp2_with fail
        have HS := Lib.hid (tok_stored HN.out HW1.out (Nat.le_refl _) tk 0 ⟨tt.toArray⟩ tn rfl)
        unfold tokSet at HS
        generalize World.setCell _ _ _ = w9 at *
        obtain ⟨d0, d1, d2, d3, _⟩ := HS.out.1.cells
        exact bodyPost_ret (v := .tuple #[tokAgg tk 0 tt tn, .int .i64 n, .int .i64 er]) (by simp [results, Tryd.results15, go_sem, d0, d1, d2, d3, tokAgg]) rfl (HF.out _ HS.out.2)
      | false =>
        rw [h35] at h4
        go_wp2_with fail
        refine (HG.out _).mono ?_
        rintro e w' ⟨rfl, rfl⟩
        cases hdg : isDig c with
        | true =>
          have HB : Hid (Calls Tryd.prog 26 #[.string s] w0 (OneIs rr w0)) := Lib.hid (by
            have h := lex_readInt s w0 hs
            have ho := HO.out
            rw [if_neg (by rw [hlow]; decide), if_neg (by rw [hup]; decide), if_neg (of_decide_eq_false h35), if_pos hdg] at ho
            rw [ho]; exact h)
          clear hlow hup h35 hdg
          clear HL HU HG HO HH HT HSY HD HW HWL
          go_wp2_with fail
          refine HB.out.mono ?_
          rintro e W1 ho
          obtain ⟨t, n, er, rfl, hbox, hbw, hfin⟩ := HFIN.out W1 e ho
          obtain ⟨tk, tt, tn⟩ := t
          have HF := Lib.hid hfin
          have HN := Lib.hid hbox
          have HW1 := Lib.hid hbw
          obtain ⟨c0, c1, c2, c3, cf⟩ := hbox.cells
          have f0 := cf 0
          have f1 := cf 1
          have f2 := cf 2
          have f3 := cf 3
          have hl := box_lt hbox
          clear ho hfin hbox hbw cf HFIN HB
          unfold tokAgg
          go_wp2_with fail
          have HS := Lib.hid (tok_stored HN.out HW1.out (Nat.le_refl _) tk 0 ⟨tt.toArray⟩ tn rfl)
          unfold tokSet at HS
          generalize World.setCell _ _ _ = w9 at *
          obtain ⟨d0, d1, d2, d3, _⟩ := HS.out.1.cells
          exact bodyPost_ret (v := .tuple #[tokAgg tk 0 tt tn, .int .i64 n, .int .i64 er]) (by simp [results, Tryd.results15, go_sem, d0, d1, d2, d3, tokAgg]) rfl (HF.out _ HS.out.2)
        | false =>
          cases h34 : decide (c = 34) with
          | true =>
            have HB : Hid (Calls Tryd.prog 27 #[.string s] w0 (OneIs rr w0)) := Lib.hid (by
              have h := lex_readString s w0 hs (by rw [HH.out, of_decide_eq_true h34])
              have ho := HO.out
              rw [if_neg (by rw [hlow]; decide), if_neg (by rw [hup]; decide), if_neg (of_decide_eq_false h35), if_neg (by rw [hdg]; decide), if_pos (of_decide_eq_true h34)] at ho
              rw [ho]; exact h)
            rw [h34] at h5
            clear hlow hup h35 hdg h34
            clear HL HU HG HO HH HT HSY HD HW HWL
            go_wp2_with fail
            refine HB.out.mono ?_
            rintro e W1 ho
            obtain ⟨t, n, er, rfl, hbox, hbw, hfin⟩ := HFIN.out W1 e ho
            obtain ⟨tk, tt, tn⟩ := t
            have HF := Lib.hid hfin
            have HN := Lib.hid hbox
            have HW1 := Lib.hid hbw
            obtain ⟨c0, c1, c2, c3, cf⟩ := hbox.cells
            have f0 := cf 0
            have f1 := cf 1
            have f2 := cf 2
            have f3 := cf 3
            have hl := box_lt hbox
            clear ho hfin hbox hbw cf HFIN HB
            unfold tokAgg
            go_wp2_with fail
            have HS := Lib.hid (tok_stored HN.out HW1.out (Nat.le_refl _) tk 0 ⟨tt.toArray⟩ tn rfl)
            unfold tokSet at HS
            generalize World.setCell _ _ _ = w9 at *
            obtain ⟨d0, d1, d2, d3, _⟩ := HS.out.1.cells
            exact bodyPost_ret (v := .tuple #[tokAgg tk 0 tt tn, .int .i64 n, .int .i64 er]) (by simp [results, Tryd.results15, go_sem, d0, d1, d2, d3, tokAgg]) rfl (HF.out _ HS.out.2)
          | false =>
            have HB : Hid (Calls Tryd.prog 28 #[.string s] w0 (OneIs rr w0)) := Lib.hid (by
              have h := lex_readSign s w0 HSY.out
              have ho := HO.out
              rw [if_neg (by rw [hlow]; decide), if_neg (by rw [hup]; decide), if_neg (of_decide_eq_false h35), if_neg (by rw [hdg]; decide), if_neg (of_decide_eq_false h34)] at ho
              rw [ho]; exact h)
            rw [h34] at h5
            clear hlow hup h35 hdg h34
            clear HL HU HG HO HH HT HSY HD HW HWL
            go_wp2_with fail
            refine HB.out.mono ?_
            rintro e W1 ho
            obtain ⟨t, n, er, rfl, hbox, hbw, hfin⟩ := HFIN.out W1 e ho
            obtain ⟨tk, tt, tn⟩ := t
            have HF := Lib.hid hfin
            have HN := Lib.hid hbox
            have HW1 := Lib.hid hbw
            obtain ⟨c0, c1, c2, c3, cf⟩ := hbox.cells
            have f0 := cf 0
            have f1 := cf 1
            have f2 := cf 2
            have f3 := cf 3
            have hl := box_lt hbox
            clear ho hfin hbox hbw cf HFIN HB
            unfold tokAgg
            go_wp2_with fail
            have HS := Lib.hid (tok_stored HN.out HW1.out (Nat.le_refl _) tk 0 ⟨tt.toArray⟩ tn rfl)
            unfold tokSet at HS
            generalize World.setCell _ _ _ = w9 at *
            obtain ⟨d0, d1, d2, d3, _⟩ := HS.out.1.cells
            exact bodyPost_ret (v := .tuple #[tokAgg tk 0 tt tn, .int .i64 n, .int .i64 er]) (by simp [results, Tryd.results15, go_sem, d0, d1, d2, d3, tokAgg]) rfl (HF.out _ HS.out.2)
end Go.Proofs.YtigbapkdpaahjaaDoor
