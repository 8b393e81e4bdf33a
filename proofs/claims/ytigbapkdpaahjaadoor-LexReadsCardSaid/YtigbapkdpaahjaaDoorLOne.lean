/-
  Lex: the walk of the document's own 'one': the token at a place, where it ends, and what is wrong.
-/
import Derived.Test.YtigbapkdpaahjaaDoorLQuo
import Derived.Test.YtigbapkdpaahjaaDoorRefRead
import Derived.Test.YtigbapkdpaahjaaDoorRefUnq
import Derived.Deep.RegionWith
import Derived.BigQuiet
import Derived.Deep.CutBlock
namespace Go.Proofs.YtigbapkdpaahjaaDoor
open Go.RowKit
/-- The token that is being made lies at b1, the result's box at b0. -/
structure TwoBox (w W : World) (b0 b1 : Nat) (k a : Int) (x : ByteArray) (n : Int) : Prop where
  res : TokBox W b0 0 0 ⟨#[]⟩ 0
  tok : TokBox W b1 k a x n
  below : Below w.heap.size w W
  new : w.heap.size ≤ b0
  apart : b0 < b1
section
variable {w W : World} {b0 b1 : Nat} {k a n : Int} {x : ByteArray}
theorem TwoBox.more (h : TwoBox w W b0 b1 k a x n) {W' : World} (hb : Below W.heap.size W W') : TwoBox w W' b0 b1 k a x n :=
  ⟨h.res.below hb (box_lt h.res), h.tok.below hb (box_lt h.tok), h.below.trans (hb.mono h.below.size), h.new, h.apart⟩
theorem TwoBox.other (h : TwoBox w W b0 b1 k a x n) (i : Nat) (v : Value) : TokBox (W.setCell ⟨b1, i, none⟩ v) b0 0 0 ⟨#[]⟩ 0 ∧ Below w.heap.size w (W.setCell ⟨b1, i, none⟩ v) := by
  have hn := h.new
  have ha := h.apart
  refine ⟨?_, h.below.setCell (p := ⟨b1, i, none⟩) (by show w.heap.size ≤ b1; omega) v⟩
  unfold TokBox
  rw [Below.heap_setCell _ _ _ _ (fun e => by have e : b0 = b1 := e; omega)]
  exact h.res
theorem TwoBox.setK (h : TwoBox w W b0 b1 k a x n) (k' : Int) : TwoBox w (W.setCell ⟨b1, 0, none⟩ (.int .i64 k')) b0 b1 k' a x n := ⟨(h.other 0 _).1, heap_setOne h.tok 0 _, (h.other 0 _).2, h.new, h.apart⟩
theorem TwoBox.setX (h : TwoBox w W b0 b1 k a x n) (x' : ByteArray) : TwoBox w (W.setCell ⟨b1, 2, none⟩ (.string x')) b0 b1 k a x' n := ⟨(h.other 2 _).1, heap_setOne h.tok 2 _, (h.other 2 _).2, h.new, h.apart⟩
theorem TwoBox.setN (h : TwoBox w W b0 b1 k a x n) (n' : Int) : TwoBox w (W.setCell ⟨b1, 3, none⟩ (.int .i64 n')) b0 b1 k a x n' := ⟨(h.other 3 _).1, heap_setOne h.tok 3 _, (h.other 3 _).2, h.new, h.apart⟩
theorem TwoBox.cells (h : TwoBox w W b0 b1 k a x n) : (W.cell? ⟨b1, 0, none⟩ = some (.int .i64 k) ∧ W.cell? ⟨b1, 1, none⟩ = some (.int .i64 a) ∧ W.cell? ⟨b1, 2, none⟩ = some (.string x) ∧ W.cell? ⟨b1, 3, none⟩ = some (.int .i64 n) ∧ W.frozen? ⟨b1, 0, none⟩ = false ∧ W.frozen? ⟨b1, 2, none⟩ = false ∧ W.frozen? ⟨b1, 3, none⟩ = false ∧ b1 < W.heap.size) ∧
    (W.cell? ⟨b0, 0, none⟩ = some (.int .i64 0) ∧ W.cell? ⟨b0, 1, none⟩ = some (.int .i64 0) ∧ W.cell? ⟨b0, 2, none⟩ = some (.string ⟨#[]⟩) ∧ W.cell? ⟨b0, 3, none⟩ = some (.int .i64 0) ∧ W.frozen? ⟨b0, 0, none⟩ = false ∧ W.frozen? ⟨b0, 1, none⟩ = false ∧ W.frozen? ⟨b0, 2, none⟩ = false ∧ W.frozen? ⟨b0, 3, none⟩ = false ∧ b0 < W.heap.size) := by
  obtain ⟨c0, c1, c2, c3, cf⟩ := h.tok.cells
  obtain ⟨d0, d1, d2, d3, df⟩ := h.res.cells
  exact ⟨⟨c0, c1, c2, c3, cf 0, cf 2, cf 3, box_lt h.tok⟩, d0, d1, d2, d3, df 0, df 1, df 2, df 3, box_lt h.res⟩
end
/-- The token at a place and where it ends, or what is wrong. -/
def RefOne (r : OneR) (a : Nat) (w : World) (x : Ending) (w' : World) : Prop := match r with
  | .tok t n => x = .returned (.tuple #[tokAgg t.kind (a : Int) t.text t.n, .int .i64 ((a + n : Nat) : Int), .int .i64 0]) ∧ Below w.heap.size w w'
  | .err e => ∃ k tt tn en, x = .returned (.tuple #[tokAgg k (a : Int) tt tn, .int .i64 en, .int .i64 e]) ∧ Below w.heap.size w w'
theorem refOne_tok {r : OneR} {t : TK} {n a : Nat} (h : r = .tok t n) {w w' : World} (hb : Below w.heap.size w w') : RefOne r a w (.returned (.tuple #[tokAgg t.kind (a : Int) t.text t.n, .int .i64 ((a + n : Nat) : Int), .int .i64 0])) w' := by subst h; exact ⟨rfl, hb⟩
theorem refOne_err {r : OneR} {e : Int} {a : Nat} (h : r = .err e) {w w' : World} (hb : Below w.heap.size w w') (k : Int) (tt : List UInt8) (tn en : Int) : RefOne r a w (.returned (.tuple #[tokAgg k (a : Int) tt tn, .int .i64 en, .int .i64 e])) w' := by subst h; exact ⟨k, tt, tn, en, rfl, hb⟩
theorem extract_mid (s : ByteArray) (a n : Nat) : (s.extract a (a + n)).data.toList = (s.data.toList.drop a).take n := by rw [Lib.extract_data, Nat.add_sub_cancel_left]
theorem mid_is {s : ByteArray} {a n : Nat} {l : List UInt8} (h : (s.data.toList.drop a).take n = l) : s.extract a (a + n) = ⟨l.toArray⟩ := by
  rw [← h, ← extract_mid, bytes_back]
theorem results_cell_tmp2 {fn : Func} {p u v : Tmp} {ty : TypeId} (h : fn.results = #[.cell p ty, .tmp u, .tmp v]) (tmps : Array Value) (P : Program) (w : World) :
    (results fn tmps).run P w =
      ((asAddr (tmps.getD p undef)).run P w).andThen fun a w₁ => ((loadVar ty a).run P w₁).andThen fun x w₂ => .ok (.tuple #[x, tmps.getD u undef, tmps.getD v undef]) w₂ := by
  simp only [results, h]
  simp [Sem.run_bind, Result.andThen]
theorem load_tok {w : World} {b : Nat} {k a n : Int} {x : ByteArray} (h : TokBox w b k a x n) : (loadVar 31 ⟨b, 0, none⟩).run Tryd.prog w = .ok (.agg #[.int .i64 k, .int .i64 a, .string x, .int .i64 n]) w := by
  obtain ⟨c0, c1, c2, c3, _⟩ := h.cells
  simp [go_sem, c0, c1, c2, c3]
theorem one_results {w : World} {b : Nat} {k a n : Int} {x : ByteArray} (h : TokBox w b k a x n) {fn : Func} {p u v : Tmp} (hr : fn.results = #[.cell p 31, .tmp u, .tmp v]) {tmps : Array Value} {U V : Value}
    (hp : tmps.getD p undef = .pointer (some ⟨b, 0, none⟩)) (hu : tmps.getD u undef = U) (hv : tmps.getD v undef = V) :
    (results fn tmps).run Tryd.prog w = .ok (.tuple #[.agg #[.int .i64 k, .int .i64 a, .string x, .int .i64 n], U, V]) w := by
  rw [results_cell_tmp2 hr, hp, hu, hv]
  simp [asAddr, Result.andThen, load_tok h]
theorem below_drawn {w wx : World} {n : Nat} (h : Below n w wx) (k : Nat) : Below n w (wx.drewN k) := ⟨h.os, h.tape, h.output, h.size, h.block⟩
theorem list_take_prefix {l m : List UInt8} (h : l.isPrefixOf m = true) : l.length ≤ m.length ∧ m.take l.length = l := by
  obtain ⟨t, rfl⟩ := List.isPrefixOf_iff_prefix.1 h
  exact ⟨by simp, by simp⟩
theorem take_prefix {l m : List UInt8} (h : l.isPrefixOf m = false) : m.take l.length ≠ l := fun e => by
  have h2 : l.isPrefixOf m = true := List.isPrefixOf_iff_prefix.2 ⟨m.drop l.length, (congrArg (· ++ m.drop l.length) e).symm.trans (List.take_append_drop _ m)⟩
  rw [h] at h2; cases h2
theorem sign_hash (r : List UInt8) : signTok (35 :: r) = .err 20 := by
  unfold signTok
  rw [find_no _ [] signL (fun j hj => by
    have hj : j < 20 := hj
    have h : ∀ j, j < 20 → (signL.getD j []).head? ≠ some 35 ∧ (signL.getD j []) ≠ [] := by decide
    obtain ⟨h1, h2⟩ := h j hj
    generalize signL.getD j [] = l at *
    cases l with
    | nil => exact absurd rfl h2
    | cons x l =>
      show (x == 35 && _) = false
      rw [show (x == 35) = false from beq_eq_false_iff_ne.2 (fun e => h1 (by rw [e]; rfl))]
      rfl)]
def SignsIs (w : World) (e : Ending) (w' : World) : Prop := ∃ b, e = .returned (.slice (some ⟨b, 0, none⟩) 20 20) ∧ Below w.heap.size w w' ∧ b < w'.heap.size ∧ w.heap.size ≤ b ∧ ∀ i, i < 20 → w'.cell? ⟨b, i, none⟩ = some (.string ⟨(signL.getD i []).toArray⟩)
def signCells : Array Value := (signL.map fun l => Value.string ⟨l.toArray⟩).toArray
theorem sign_cell (i : Nat) (h : i < 20) : signCells[i]? = some (.string ⟨(signL.getD i []).toArray⟩) := by
  unfold signCells
  rw [List.getElem?_toArray, List.getElem?_map, List.getD_eq_getElem?_getD, List.getElem?_eq_getElem (show i < signL.length from h)]
  rfl
set_option maxRecDepth 100000 in
theorem ref_Signs (w : World) : Calls Tryd.prog 35 #[] w (SignsIs w) := by
  have HW : Hid (SignsIs w (.returned (.slice (some ⟨w.heap.size, 0, none⟩) 20 20)) (w.alloc (.cells signCells 9 (0, 0)))) := Lib.hid ⟨w.heap.size, rfl, (Below.refl _ w).alloc (Nat.le_refl _) _, by simp, Nat.le_refl _, fun i hi => by
    rw [Lib.cell_of_heap (box_at w _ _ rfl)]; exact sign_cell i hi⟩
  go_enter Tryd.func35, Tryd.ntmps35
  go_wp2_with fail
  go_ret
  exact HW.out
set_option maxRecDepth 100000 in
set_option maxHeartbeats 4000000 in
theorem ref_one5 (s : ByteArray) (a : Nat) (w : World) (hs : s.size ≤ 4096) (ha : a < s.size) : Calls Tryd.prog 16 #[.string s, .int .i64 (a : Int)] w (RefOne (oneV (s.data.toList.drop a)) a w) := by
  have hix := fun W => index_at s a ha a rfl W
  have hdc := drop_cons s a ha
  have g1 : (a : Int) < (s.size : Int) := by omega
  have g2 : (0 : Int) ≤ (a : Int) := by omega
  have HTB : Hid (TwoBox w ((w.alloc (.cells #[.int .i64 0, .int .i64 0, .string ⟨#[]⟩, .int .i64 0] 31 (0, 0))).alloc (.cells #[.int .i64 0, .int .i64 (a : Int), .string ⟨#[]⟩, .int .i64 0] 31 (0, 0))) w.heap.size (w.heap.size + 1) 0 (a : Int) ⟨#[]⟩ 0) := Lib.hid ⟨(TokBox.new w).below (below_one' _) (by simp), box_at _ _ _ (by simp), (below_tok w).trans ((below_one' _).mono (by simp)), Nat.le_refl _, Nat.lt_succ_self _⟩
  have HRUN := Lib.hid (fun W => ref_run s a W (by omega) (by omega))
  have hnl := nameOf_len (s.data.toList.drop a)
  rw [List.length_drop, show s.data.toList.length = s.size from rfl] at hnl
  have HXN := Lib.hid (mid_is (nameOf_take (s.data.toList.drop a)))
  have HO := Lib.hid (show oneV (s.data.toList.drop a) = _ by rw [hdc, oneV_cons, ← hdc])
  have HTL := Lib.hid hdc
  clear hdc
  unfold intTok at HO
  have HRV := Lib.hid (readV_err (l := nameOf (s.data.toList.drop a)))
  generalize nameOf (s.data.toList.drop a) = nm at *
  obtain ⟨en, hen⟩ : ∃ en, a + nm.length = en := ⟨_, rfl⟩
  rw [hen] at HRUN HXN
  have hae : a ≤ en := by omega
  have hes : en ≤ s.size := by omega
  have g3 : (a : Int) ≤ (en : Int) := by omega
  have g4 : (en : Int) ≤ (s.size : Int) := by omega
  have HEN := Lib.hid hen
  clear hnl hen
  generalize hrr : oneV (s.data.toList.drop a) = rr at *
  clear hrr
  generalize hc : s[a] = c at *
  have HL1 := Lib.hid (fun W => ref_letter_c c 97 122 97 122 rfl rfl W)
  have HL2 := Lib.hid (fun W => ref_letter_c c 65 90 65 90 rfl rfl W)
  have HL3 := Lib.hid (fun W => ref_letter_c c 48 57 48 57 rfl rfl W)
  have hu := under_eq c
  have HLO := Lib.hid (low_order c)
  clear hc
  go_enter Tryd.func16, Tryd.ntmps16
  go_upto_region 3 with fail
  generalize hbw : w.heap.size + 1 = b1 at *
  generalize (w.alloc (.cells #[.int .i64 0, .int .i64 0, .string ⟨#[]⟩, .int .i64 0] 31 (0, 0))).alloc (.cells #[.int .i64 0, .int .i64 (a : Int), .string ⟨#[]⟩, .int .i64 0] 31 (0, 0)) = w0 at *
  obtain ⟨⟨c0, c1, c2, c3, f0, f2, f3, cl⟩, d0, d1, d2, d3, e0, e1, e2, e3, dl⟩ := HTB.out.cells
  go_wp2_with fail
  refine (HL1.out _).mono ?_
  rintro e w' ⟨rfl, rfl⟩
  have HTB2 := HTB
  cases hlow : isLow c with
  | true =>
    as_aux_lemma =>
      have hor : (decide (97 ≤ c.toNat) && decide (c.toNat ≤ 122)) = true ∨ ((decide (97 ≤ c.toNat) && decide (c.toNat ≤ 122)) = false ∧ decide (c.toNat = 95) = true) := by
        have := HLO.out
        rw [hlow] at this
        cases h1 : (decide (97 ≤ c.toNat) && decide (c.toNat ≤ 122)) with
        | true => exact .inl rfl
        | false => rw [h1, Bool.false_or] at this; exact .inr ⟨rfl, this.symm⟩
      have HR := Lib.hid (HO.out.trans (if_pos hlow))
      generalize (decide (97 ≤ c.toNat) && decide (c.toNat ≤ 122)) = b97 at *
      generalize decide (c.toNat = 95) = b95 at *
      have HKW := Lib.hid (fun W => ref_IsWord ⟨nm.toArray⟩ W)
      clear hlow HLO HL1 HL2 HL3 HO HTL
      rcases hor with rfl | ⟨rfl, rfl⟩
      · go_wp2_with fail
        refine (HRUN.out _).mono ?_
        rintro e w' ⟨rfl, rfl⟩
        go_upto_region 6 with fail
        rw [HXN.out]
        have HT1 := Lib.hid (HTB2.out.setX ⟨nm.toArray⟩)
        clear c0 c1 c2 c3 f0 f2 f3 cl d0 d1 d2 d3 e0 e1 e2 e3 dl
        generalize World.setCell _ _ _ = wt1 at *
        obtain ⟨⟨c0, c1, c2, c3, f0, f2, f3, cl⟩, d0, d1, d2, d3, e0, e1, e2, e3, dl⟩ := HT1.out.cells
        go_upto_region 7 with fail
        have HT2 := Lib.hid (HT1.out.setK 1)
        clear c0 c1 c2 c3 f0 f2 f3 cl d0 d1 d2 d3 e0 e1 e2 e3 dl
        generalize World.setCell _ _ _ = wt2 at *
        obtain ⟨⟨c0, c1, c2, c3, f0, f2, f3, cl⟩, d0, d1, d2, d3, e0, e1, e2, e3, dl⟩ := HT2.out.cells
        go_wp2_with fail
        refine (HKW.out _).mono ?_
        rintro e wk ⟨rfl, hbk⟩
        have HTK := Lib.hid (HT2.out.more hbk)
        clear hbk
        clear c0 c1 c2 c3 f0 f2 f3 cl d0 d1 d2 d3 e0 e1 e2 e3 dl
        obtain ⟨⟨c0, c1, c2, c3, f0, f2, f3, cl⟩, d0, d1, d2, d3, e0, e1, e2, e3, dl⟩ := HTK.out.cells
        cases hkey : isKey nm with
        | true =>
          rw [hkey, if_pos rfl] at HR
          clear hkey HKW
          go_upto_region 9 with fail
          have HT3 := Lib.hid (HTK.out.setK 6)
          clear c0 c1 c2 c3 f0 f2 f3 cl d0 d1 d2 d3 e0 e1 e2 e3 dl
          generalize World.setCell _ _ _ = wt3 at *
          obtain ⟨⟨c0, c1, c2, c3, f0, f2, f3, cl⟩, d0, d1, d2, d3, e0, e1, e2, e3, dl⟩ := HT3.out.cells
          go_wp2_with fail
          have HS := Lib.hid (tok_stored HT3.out.res HT3.out.below HT3.out.new 6 (a : Int) ⟨nm.toArray⟩ 0 rfl)
          unfold tokSet at HS
          clear c0 c1 c2 c3 f0 f2 f3 cl d0 d1 d2 d3 e0 e1 e2 e3 dl
          generalize World.setCell _ _ _ = w9 at *
          exact bodyPost_ret (v := .tuple #[.agg #[.int .i64 6, .int .i64 (a : Int), .string ⟨nm.toArray⟩, .int .i64 0], .int .i64 (en : Int), .int .i64 0]) (one_results HS.out.1 rfl rfl rfl rfl) rfl (by have := refOne_tok HR.out HS.out.2 (a := a); rw [HEN.out] at this; exact this)
        | false =>
          rw [hkey, if_neg (by decide)] at HR
          clear hkey HKW
          go_wp2_with fail
          have HS := Lib.hid (tok_stored HTK.out.res HTK.out.below HTK.out.new 1 (a : Int) ⟨nm.toArray⟩ 0 rfl)
          unfold tokSet at HS
          clear c0 c1 c2 c3 f0 f2 f3 cl d0 d1 d2 d3 e0 e1 e2 e3 dl
          generalize World.setCell _ _ _ = w9 at *
          exact bodyPost_ret (v := .tuple #[.agg #[.int .i64 1, .int .i64 (a : Int), .string ⟨nm.toArray⟩, .int .i64 0], .int .i64 (en : Int), .int .i64 0]) (one_results HS.out.1 rfl rfl rfl rfl) rfl (by have := refOne_tok HR.out HS.out.2 (a := a); rw [HEN.out] at this; exact this)
      · go_wp2_with fail
        refine (HRUN.out _).mono ?_
        rintro e w' ⟨rfl, rfl⟩
        go_upto_region 6 with fail
        rw [HXN.out]
        have HT1 := Lib.hid (HTB2.out.setX ⟨nm.toArray⟩)
        clear c0 c1 c2 c3 f0 f2 f3 cl d0 d1 d2 d3 e0 e1 e2 e3 dl
        generalize World.setCell _ _ _ = wt1 at *
        obtain ⟨⟨c0, c1, c2, c3, f0, f2, f3, cl⟩, d0, d1, d2, d3, e0, e1, e2, e3, dl⟩ := HT1.out.cells
        go_upto_region 7 with fail
        have HT2 := Lib.hid (HT1.out.setK 1)
        clear c0 c1 c2 c3 f0 f2 f3 cl d0 d1 d2 d3 e0 e1 e2 e3 dl
        generalize World.setCell _ _ _ = wt2 at *
        obtain ⟨⟨c0, c1, c2, c3, f0, f2, f3, cl⟩, d0, d1, d2, d3, e0, e1, e2, e3, dl⟩ := HT2.out.cells
        go_wp2_with fail
        refine (HKW.out _).mono ?_
        rintro e wk ⟨rfl, hbk⟩
        have HTK := Lib.hid (HT2.out.more hbk)
        clear hbk
        clear c0 c1 c2 c3 f0 f2 f3 cl d0 d1 d2 d3 e0 e1 e2 e3 dl
        obtain ⟨⟨c0, c1, c2, c3, f0, f2, f3, cl⟩, d0, d1, d2, d3, e0, e1, e2, e3, dl⟩ := HTK.out.cells
        cases hkey : isKey nm with
        | true =>
          rw [hkey, if_pos rfl] at HR
          clear hkey HKW
          go_upto_region 9 with fail
          have HT3 := Lib.hid (HTK.out.setK 6)
          clear c0 c1 c2 c3 f0 f2 f3 cl d0 d1 d2 d3 e0 e1 e2 e3 dl
          generalize World.setCell _ _ _ = wt3 at *
          obtain ⟨⟨c0, c1, c2, c3, f0, f2, f3, cl⟩, d0, d1, d2, d3, e0, e1, e2, e3, dl⟩ := HT3.out.cells
          go_wp2_with fail
          have HS := Lib.hid (tok_stored HT3.out.res HT3.out.below HT3.out.new 6 (a : Int) ⟨nm.toArray⟩ 0 rfl)
          unfold tokSet at HS
          clear c0 c1 c2 c3 f0 f2 f3 cl d0 d1 d2 d3 e0 e1 e2 e3 dl
          generalize World.setCell _ _ _ = w9 at *
          exact bodyPost_ret (v := .tuple #[.agg #[.int .i64 6, .int .i64 (a : Int), .string ⟨nm.toArray⟩, .int .i64 0], .int .i64 (en : Int), .int .i64 0]) (one_results HS.out.1 rfl rfl rfl rfl) rfl (by have := refOne_tok HR.out HS.out.2 (a := a); rw [HEN.out] at this; exact this)
        | false =>
          rw [hkey, if_neg (by decide)] at HR
          clear hkey HKW
          go_wp2_with fail
          have HS := Lib.hid (tok_stored HTK.out.res HTK.out.below HTK.out.new 1 (a : Int) ⟨nm.toArray⟩ 0 rfl)
          unfold tokSet at HS
          clear c0 c1 c2 c3 f0 f2 f3 cl d0 d1 d2 d3 e0 e1 e2 e3 dl
          generalize World.setCell _ _ _ = w9 at *
          exact bodyPost_ret (v := .tuple #[.agg #[.int .i64 1, .int .i64 (a : Int), .string ⟨nm.toArray⟩, .int .i64 0], .int .i64 (en : Int), .int .i64 0]) (one_results HS.out.1 rfl rfl rfl rfl) rfl (by have := refOne_tok HR.out HS.out.2 (a := a); rw [HEN.out] at this; exact this)
  | false =>
    have hbs := HLO.out
    rw [hlow] at hbs
    have hb97 : (decide (97 ≤ c.toNat) && decide (c.toNat ≤ 122)) = false := by
      cases h1 : (decide (97 ≤ c.toNat) && decide (c.toNat ≤ 122)) with
      | true => rw [h1] at hbs; cases hbs
      | false => rfl
    rw [hb97, Bool.false_or] at hbs
    rw [← hbs] at hu
    rw [hb97]
    have HR0 := Lib.hid (HO.out.trans (if_neg (by rw [hlow]; decide)))
    clear hbs hb97 HLO HO HL1 hlow
    go_wp2_with fail
    refine (HL2.out _).mono ?_
    rintro e w' ⟨rfl, rfl⟩
    cases hup : isUp c with
    | true =>
      as_aux_lemma =>
        have HR := Lib.hid (HR0.out.trans (if_pos hup))
        have hbu : (decide (65 ≤ c.toNat) && decide (c.toNat ≤ 90)) = true := hup
        rw [hbu]
        clear hbu hup HL2 HL3 HTL HR0
        go_wp2_with fail
        refine (HRUN.out _).mono ?_
        rintro e w' ⟨rfl, rfl⟩
        go_wp2_with fail
        rw [HXN.out]
        have HT := Lib.hid ((HTB2.out.setK 2).setX ⟨nm.toArray⟩)
        have HS := Lib.hid (tok_stored HT.out.res HT.out.below HT.out.new 2 (a : Int) ⟨nm.toArray⟩ 0 rfl)
        unfold tokSet at HS
        clear c0 c1 c2 c3 f0 f2 f3 cl d0 d1 d2 d3 e0 e1 e2 e3 dl
        generalize World.setCell _ _ _ = w9 at *
        exact bodyPost_ret (v := .tuple #[.agg #[.int .i64 2, .int .i64 (a : Int), .string ⟨nm.toArray⟩, .int .i64 0], .int .i64 (en : Int), .int .i64 0]) (one_results HS.out.1 rfl rfl rfl rfl) rfl (by have := refOne_tok HR.out HS.out.2 (a := a); rw [HEN.out] at this; exact this)
    | false =>
      have HR1 := Lib.hid (HR0.out.trans (if_neg (by rw [hup]; decide)))
      have hbu : (decide (65 ≤ c.toNat) && decide (c.toNat ≤ 90)) = false := hup
      rw [hbu]
      clear hbu hup HL2 HR0 hu
      have HSG := Lib.hid (fun W => ref_Signs W)
      have HQQ := Lib.hid (fun W => ref_quote s a W (by omega) ha)
      have HSY : Hid (∀ i, i < 20 → NoSign (s.data.toList.drop a) i → (signL.getD i []).isPrefixOf (s.data.toList.drop a) = true → signTok (s.data.toList.drop a) = .tok ⟨7, signL.getD i [], 0⟩ (signL.getD i []).length) := Lib.hid (fun i hi hn hp => by
        unfold signTok
        rw [show signL.find? (·.isPrefixOf (s.data.toList.drop a)) = some (signL.getD i []) from find_at _ [] signL i (fun j hj => hn j hj) hi hp])
      have HSN : Hid (NoSign (s.data.toList.drop a) 20 → signTok (s.data.toList.drop a) = .err 20) := Lib.hid (fun hn => by
        unfold signTok
        rw [show signL.find? (·.isPrefixOf (s.data.toList.drop a)) = none from find_no _ [] signL (fun j hj => hn j hj)])
      by_cases h35 : c = 35
      · have HR := Lib.hid (HR1.out.trans (if_pos h35))
        have B35 : ((c.toNat : Int) == 35) = true := by rw [h35]; rfl
        have hdg : (decide (48 ≤ c.toNat) && decide (c.toNat ≤ 57)) = false := by rw [h35]; rfl
        have B34 : ((c.toNat : Int) == 34) = false := by rw [h35]; rfl
        have HRSH : Hid (signTok (s.data.toList.drop a) = .err 20) := Lib.hid (by rw [HTL.out, h35]; exact sign_hash _)
        unfold tagTok at HR
        obtain ⟨p1, hp1⟩ : ∃ p1, a + 1 = p1 := ⟨_, rfl⟩
        have q1 : (a : Int) + 1 = (p1 : Int) := by omega
        rw [hp1] at HR
        clear h35 HR1 HQQ HTL HRUN HXN HRV HEN hae hes g3 g4
        by_cases h1 : p1 < s.size
        · have g9 : (p1 : Int) < (s.size : Int) := by omega
          have g10 : (0 : Int) ≤ (p1 : Int) := by omega
          have hix2 := fun W => index_at s p1 h1 p1 rfl W
          have HL4 := Lib.hid (fun W => ref_letter_c s[p1] 65 90 65 90 rfl rfl W)
          have hhead : (s.data.toList.drop p1).head? = some s[p1] := by rw [drop_cons s p1 h1]; rfl
          rw [hhead] at HR
          have HRUN2 := Lib.hid (fun W => ref_run s p1 W (by omega) (by omega))
          have hnl := nameOf_len (s.data.toList.drop p1)
          rw [List.length_drop, show s.data.toList.length = s.size from rfl] at hnl
          have HXN2 := Lib.hid (mid_is (nameOf_take (s.data.toList.drop p1)))
          generalize nameOf (s.data.toList.drop p1) = nm2 at *
          obtain ⟨en2, hen2⟩ : ∃ en2, p1 + nm2.length = en2 := ⟨_, rfl⟩
          rw [hen2] at HRUN2 HXN2
          have hae2 : p1 ≤ en2 := by omega
          have hes2 : en2 ≤ s.size := by omega
          have g3 : (p1 : Int) ≤ (en2 : Int) := by omega
          have g4 : (en2 : Int) ≤ (s.size : Int) := by omega
          have HEN2 : Hid (a + (1 + nm2.length) = en2) := Lib.hid (by omega)
          clear hnl hen2 hhead hp1
          generalize s[p1] = cc at *
          go_wp2_with fail
          refine (HL4.out _).mono ?_
          rintro e w' ⟨rfl, rfl⟩
          clear hix2
          cases hu2 : isUp cc with
          | true =>
            as_aux_lemma =>
              have HR2 := Lib.hid (HR.out.trans (if_pos hu2))
              have hbu : (decide (65 ≤ cc.toNat) && decide (cc.toNat ≤ 90)) = true := hu2
              rw [hbu]
              clear hbu hu2 HR HL3 HSG HSY HSN HL4 HRSH
              go_wp2_with fail
              refine (HRUN2.out _).mono ?_
              rintro e w' ⟨rfl, rfl⟩
              go_wp2_with fail
              rw [HXN2.out]
              have HT := Lib.hid ((HTB2.out.setK 3).setX ⟨nm2.toArray⟩)
              have HS := Lib.hid (tok_stored HT.out.res HT.out.below HT.out.new 3 (a : Int) ⟨nm2.toArray⟩ 0 rfl)
              unfold tokSet at HS
              clear c0 c1 c2 c3 f0 f2 f3 cl d0 d1 d2 d3 e0 e1 e2 e3 dl
              generalize World.setCell _ _ _ = w9 at *
              exact bodyPost_ret (v := .tuple #[.agg #[.int .i64 3, .int .i64 (a : Int), .string ⟨nm2.toArray⟩, .int .i64 0], .int .i64 (en2 : Int), .int .i64 0]) (one_results HS.out.1 rfl rfl rfl rfl) rfl (by have := refOne_tok HR2.out HS.out.2 (a := a); rw [HEN2.out] at this; exact this)
          | false =>
            as_aux_lemma =>
              have HRS := Lib.hid ((HR.out.trans (if_neg (show ¬ isUp cc = true by rw [hu2]; decide))).trans HRSH.out.symm)
              have hbu : (decide (65 ≤ cc.toNat) && decide (cc.toNat ≤ 90)) = false := hu2
              rw [hbu]
              clear hbu hu2 HR HL4 HRSH HRUN2 HXN2 HEN2 hae2 hes2 g3 g4
              go_wp2_with fail
              refine (HL3.out _).mono ?_
              rintro e w' ⟨rfl, rfl⟩
              rw [hdg]
              go_wp2_with fail
              refine (HSG.out _).mono ?_
              rintro e ws ⟨bs, rfl, hb, hbs, hbn, hk⟩
              have hnb : bs ≠ b1 := by have := box_lt HTB2.out.tok; omega
              have hnb2 : b1 ≠ bs := fun h => hnb h.symm
              clear hbn
              have HTS := Lib.hid (HTB2.out.more hb)
              have HK := Lib.hid hk
              clear hb hk
              clear c0 c1 c2 c3 f0 f2 f3 cl d0 d1 d2 d3 e0 e1 e2 e3 dl
              obtain ⟨⟨c0, c1, c2, c3, f0, f2, f3, cl⟩, d0, d1, d2, d3, e0, e1, e2, e3, dl⟩ := HTS.out.cells
              go_wp2_with fail
              go_loopw [19] (fun vi wr => ∃ i : Nat, i ≤ 20 ∧ vi = .int .i64 i ∧ Hid (Below ws.heap.size ws wr) ∧ Hid (NoSign (s.data.toList.drop a) i)) (fun vi _ => 20 - (intOf vi).toNat)
              case atStart => exact ⟨0, by omega, by go_num, Lib.hid (Below.refl _ _), Lib.hid (fun j hj => absurd hj (by omega))⟩
              case round =>
                obtain ⟨i, hi, rfl, HBW, HN⟩ := hrel
                have HTR := Lib.hid (HTS.out.more HBW.out)
                clear c0 c1 c2 c3 f0 f2 f3 cl d0 d1 d2 d3 e0 e1 e2 e3 dl
                obtain ⟨⟨c0, c1, c2, c3, f0, f2, f3, cl⟩, d0, d1, d2, d3, e0, e1, e2, e3, dl⟩ := HTR.out.cells
                by_cases hi2 : i < 20
                · have g5 : decide ((i : Int) < 20) = true := decide_eq_true (by omega)
                  have g6 : (i : Int) < 20 := by omega
                  have g7 : (0 : Int) ≤ (i : Int) := by omega
                  have k1 := (HBW.out.cell (p := ⟨bs, i, none⟩) hbs).trans (HK.out i hi2)
                  have HS1 := Lib.hid (HSY.out i hi2 HN.out)
                  have HN2 : Hid ((signL.getD i []).isPrefixOf (s.data.toList.drop a) = false → NoSign (s.data.toList.drop a) (i + 1)) := Lib.hid (fun hf j hj => by
                    rcases Nat.lt_or_eq_of_le (Nat.le_of_lt_succ hj) with h1 | rfl
                    · exact HN.out j h1
                    · exact hf)
                  have hz := sign_size i hi2
                  have hsz : (⟨(signL.getD i []).toArray⟩ : ByteArray).size = (signL.getD i []).length := by show (signL.getD i []).toArray.size = _; rw [List.size_toArray]
                  generalize signL.getD i [] = l at *
                  generalize hn : l.length = n at *
                  obtain ⟨p2, hp2⟩ : ∃ p2, a + n = p2 := ⟨_, rfl⟩
                  have q2 : (a : Int) + (n : Int) = (p2 : Int) := by omega
                  have hap : a ≤ p2 := by omega
                  have q4 : (a : Int) ≤ (p2 : Int) := by omega
                  cases hp : l.isPrefixOf (s.data.toList.drop a) with
                  | true =>
                    as_aux_lemma =>
                      have HR9 := Lib.hid (HRS.out.trans (HS1.out hp))
                      obtain ⟨hp3, hp4⟩ := list_take_prefix hp
                      rw [List.length_drop, show s.data.toList.length = s.size from rfl] at hp3
                      rw [hn] at hp3 hp4
                      have hX := mid_is hp4
                      rw [hp2] at hX
                      have hp5 : p2 ≤ s.size := by omega
                      have q3 : (p2 : Int) ≤ (s.size : Int) := by omega
                      have HP2 := Lib.hid hp2
                      clear HS1 HN2 hp hp3 hp4 hn hp2
                      go_wp2_with fail
                      go_quiet (fail)
                      generalize hwq : wr.drewN _ = wq at *
                      have HBQ : Hid (Below ws.heap.size ws wq) := Lib.hid (by rw [← hwq]; exact below_drawn HBW.out _)
                      have k2 : wq.cell? ⟨bs, i, none⟩ = some (.string ⟨l.toArray⟩) := by rw [← hwq]; exact k1
                      have HTQ := Lib.hid (HTS.out.more HBQ.out)
                      clear c0 c1 c2 c3 f0 f2 f3 cl d0 d1 d2 d3 e0 e1 e2 e3 dl hwq k1
                      obtain ⟨⟨c0, c1, c2, c3, f0, f2, f3, cl⟩, d0, d1, d2, d3, e0, e1, e2, e3, dl⟩ := HTQ.out.cells
                      go_wp2_with fail
                      have HT := Lib.hid ((HTQ.out.setK 7).setX ⟨l.toArray⟩)
                      have HS := Lib.hid (tok_stored HT.out.res HT.out.below HT.out.new 7 (a : Int) ⟨l.toArray⟩ 0 rfl)
                      unfold tokSet at HS
                      clear c0 c1 c2 c3 f0 f2 f3 cl d0 d1 d2 d3 e0 e1 e2 e3 dl
                      generalize World.setCell _ _ _ = w9 at *
                      exact bodyPost_ret (v := .tuple #[.agg #[.int .i64 7, .int .i64 (a : Int), .string ⟨l.toArray⟩, .int .i64 0], .int .i64 (p2 : Int), .int .i64 0]) (one_results HS.out.1 rfl rfl rfl rfl) rfl (by have := refOne_tok HR9.out HS.out.2 (a := a); rw [HP2.out] at this; exact this)
                  | false =>
                    as_aux_lemma =>
                      have HNX := Lib.hid (HN2.out hp)
                      have hp4 := take_prefix hp
                      rw [hn] at hp4
                      have hx : (s.extract a p2).data.toList ≠ l := by rw [← hp2, extract_mid]; exact hp4
                      clear HS1 HN2 hp hp4 hn hp2
                      by_cases hp5 : p2 ≤ s.size
                      · have q3 : (p2 : Int) ≤ (s.size : Int) := by omega
                        have e1 : ((s.extract a p2).toList == l) = false := by rw [beq_eq_false_iff_ne, list_of]; exact hx
                        have e2 : ((s.extract a p2).toList == (⟨l.toArray⟩ : ByteArray).toList) = false := by rw [beq_eq_false_iff_ne, list_of, list_of]; exact hx
                        clear hx
                        go_wp2_with fail
                        go_quiet (fail)
                        generalize hwq : wr.drewN _ = wq at *
                        have HBQ : Hid (Below ws.heap.size ws wq) := Lib.hid (by rw [← hwq]; exact below_drawn HBW.out _)
                        have k2 : wq.cell? ⟨bs, i, none⟩ = some (.string ⟨l.toArray⟩) := by rw [← hwq]; exact k1
                        have HTQ := Lib.hid (HTS.out.more HBQ.out)
                        clear c0 c1 c2 c3 f0 f2 f3 cl d0 d1 d2 d3 e0 e1 e2 e3 dl hwq k1
                        obtain ⟨⟨c0, c1, c2, c3, f0, f2, f3, cl⟩, d0, d1, d2, d3, e0, e1, e2, e3, dl⟩ := HTQ.out.cells
                        go_wp2_with fail
                        go_roundw
                        case rel => exact ⟨i + 1, by omega, by go_num, HBQ, HNX⟩
                        case measure => simp [intOf]; omega
                      · have q3 : ¬ (p2 : Int) ≤ (s.size : Int) := by omega
                        clear hx
                        go_wp2_with fail
                        go_quiet (fail)
                        generalize hwq : wr.drewN _ = wq at *
                        have HBQ : Hid (Below ws.heap.size ws wq) := Lib.hid (by rw [← hwq]; exact below_drawn HBW.out _)
                        have k2 : wq.cell? ⟨bs, i, none⟩ = some (.string ⟨l.toArray⟩) := by rw [← hwq]; exact k1
                        have HTQ := Lib.hid (HTS.out.more HBQ.out)
                        clear c0 c1 c2 c3 f0 f2 f3 cl d0 d1 d2 d3 e0 e1 e2 e3 dl hwq k1
                        obtain ⟨⟨c0, c1, c2, c3, f0, f2, f3, cl⟩, d0, d1, d2, d3, e0, e1, e2, e3, dl⟩ := HTQ.out.cells
                        go_wp2_with fail
                        go_roundw
                        case rel => exact ⟨i + 1, by omega, by go_num, HBQ, HNX⟩
                        case measure => simp [intOf]; omega
                · have g5 : decide ((i : Int) < 20) = false := decide_eq_false (by omega)
                  obtain rfl : i = 20 := by omega
                  have HR := Lib.hid (HRS.out.trans (HSN.out HN.out))
                  go_wp2_with fail
                  have HS := Lib.hid (tok_stored HTR.out.res HTR.out.below HTR.out.new 0 (a : Int) ⟨#[]⟩ 0 rfl)
                  unfold tokSet at HS
                  clear c0 c1 c2 c3 f0 f2 f3 cl d0 d1 d2 d3 e0 e1 e2 e3 dl
                  generalize World.setCell _ _ _ = w9 at *
                  exact bodyPost_ret (v := .tuple #[.agg #[.int .i64 0, .int .i64 (a : Int), .string ⟨#[]⟩, .int .i64 0], .int .i64 (a : Int), .int .i64 20]) (one_results HS.out.1 rfl rfl rfl rfl) rfl (refOne_err HR.out HS.out.2 0 [] 0 a)
        · as_aux_lemma =>
            have g9 : ¬ (p1 : Int) < (s.size : Int) := by omega
            have HRS := Lib.hid ((HR.out.trans (if_neg (by rw [List.drop_eq_nil_of_le (show s.data.toList.length ≤ p1 by show s.size ≤ p1; omega)]; simp))).trans HRSH.out.symm)
            clear HR HRSH hp1
            go_wp2_with fail
            refine (HL3.out _).mono ?_
            rintro e w' ⟨rfl, rfl⟩
            rw [hdg]
            go_wp2_with fail
            refine (HSG.out _).mono ?_
            rintro e ws ⟨bs, rfl, hb, hbs, hbn, hk⟩
            have hnb : bs ≠ b1 := by have := box_lt HTB2.out.tok; omega
            have hnb2 : b1 ≠ bs := fun h => hnb h.symm
            clear hbn
            have HTS := Lib.hid (HTB2.out.more hb)
            have HK := Lib.hid hk
            clear hb hk
            clear c0 c1 c2 c3 f0 f2 f3 cl d0 d1 d2 d3 e0 e1 e2 e3 dl
            obtain ⟨⟨c0, c1, c2, c3, f0, f2, f3, cl⟩, d0, d1, d2, d3, e0, e1, e2, e3, dl⟩ := HTS.out.cells
            go_wp2_with fail
            go_loopw [19] (fun vi wr => ∃ i : Nat, i ≤ 20 ∧ vi = .int .i64 i ∧ Hid (Below ws.heap.size ws wr) ∧ Hid (NoSign (s.data.toList.drop a) i)) (fun vi _ => 20 - (intOf vi).toNat)
            case atStart => exact ⟨0, by omega, by go_num, Lib.hid (Below.refl _ _), Lib.hid (fun j hj => absurd hj (by omega))⟩
            case round =>
              obtain ⟨i, hi, rfl, HBW, HN⟩ := hrel
              have HTR := Lib.hid (HTS.out.more HBW.out)
              clear c0 c1 c2 c3 f0 f2 f3 cl d0 d1 d2 d3 e0 e1 e2 e3 dl
              obtain ⟨⟨c0, c1, c2, c3, f0, f2, f3, cl⟩, d0, d1, d2, d3, e0, e1, e2, e3, dl⟩ := HTR.out.cells
              by_cases hi2 : i < 20
              · have g5 : decide ((i : Int) < 20) = true := decide_eq_true (by omega)
                have g6 : (i : Int) < 20 := by omega
                have g7 : (0 : Int) ≤ (i : Int) := by omega
                have k1 := (HBW.out.cell (p := ⟨bs, i, none⟩) hbs).trans (HK.out i hi2)
                have HS1 := Lib.hid (HSY.out i hi2 HN.out)
                have HN2 : Hid ((signL.getD i []).isPrefixOf (s.data.toList.drop a) = false → NoSign (s.data.toList.drop a) (i + 1)) := Lib.hid (fun hf j hj => by
                  rcases Nat.lt_or_eq_of_le (Nat.le_of_lt_succ hj) with h1 | rfl
                  · exact HN.out j h1
                  · exact hf)
                have hz := sign_size i hi2
                have hsz : (⟨(signL.getD i []).toArray⟩ : ByteArray).size = (signL.getD i []).length := by show (signL.getD i []).toArray.size = _; rw [List.size_toArray]
                generalize signL.getD i [] = l at *
                generalize hn : l.length = n at *
                obtain ⟨p2, hp2⟩ : ∃ p2, a + n = p2 := ⟨_, rfl⟩
                have q2 : (a : Int) + (n : Int) = (p2 : Int) := by omega
                have hap : a ≤ p2 := by omega
                have q4 : (a : Int) ≤ (p2 : Int) := by omega
                cases hp : l.isPrefixOf (s.data.toList.drop a) with
                | true =>
                  as_aux_lemma =>
                    have HR9 := Lib.hid (HRS.out.trans (HS1.out hp))
                    obtain ⟨hp3, hp4⟩ := list_take_prefix hp
                    rw [List.length_drop, show s.data.toList.length = s.size from rfl] at hp3
                    rw [hn] at hp3 hp4
                    have hX := mid_is hp4
                    rw [hp2] at hX
                    have hp5 : p2 ≤ s.size := by omega
                    have q3 : (p2 : Int) ≤ (s.size : Int) := by omega
                    have HP2 := Lib.hid hp2
                    clear HS1 HN2 hp hp3 hp4 hn hp2
                    go_wp2_with fail
                    go_quiet (fail)
                    generalize hwq : wr.drewN _ = wq at *
                    have HBQ : Hid (Below ws.heap.size ws wq) := Lib.hid (by rw [← hwq]; exact below_drawn HBW.out _)
                    have k2 : wq.cell? ⟨bs, i, none⟩ = some (.string ⟨l.toArray⟩) := by rw [← hwq]; exact k1
                    have HTQ := Lib.hid (HTS.out.more HBQ.out)
                    clear c0 c1 c2 c3 f0 f2 f3 cl d0 d1 d2 d3 e0 e1 e2 e3 dl hwq k1
                    obtain ⟨⟨c0, c1, c2, c3, f0, f2, f3, cl⟩, d0, d1, d2, d3, e0, e1, e2, e3, dl⟩ := HTQ.out.cells
                    go_wp2_with fail
                    have HT := Lib.hid ((HTQ.out.setK 7).setX ⟨l.toArray⟩)
                    have HS := Lib.hid (tok_stored HT.out.res HT.out.below HT.out.new 7 (a : Int) ⟨l.toArray⟩ 0 rfl)
                    unfold tokSet at HS
                    clear c0 c1 c2 c3 f0 f2 f3 cl d0 d1 d2 d3 e0 e1 e2 e3 dl
                    generalize World.setCell _ _ _ = w9 at *
                    exact bodyPost_ret (v := .tuple #[.agg #[.int .i64 7, .int .i64 (a : Int), .string ⟨l.toArray⟩, .int .i64 0], .int .i64 (p2 : Int), .int .i64 0]) (one_results HS.out.1 rfl rfl rfl rfl) rfl (by have := refOne_tok HR9.out HS.out.2 (a := a); rw [HP2.out] at this; exact this)
                | false =>
                  as_aux_lemma =>
                    have HNX := Lib.hid (HN2.out hp)
                    have hp4 := take_prefix hp
                    rw [hn] at hp4
                    have hx : (s.extract a p2).data.toList ≠ l := by rw [← hp2, extract_mid]; exact hp4
                    clear HS1 HN2 hp hp4 hn hp2
                    by_cases hp5 : p2 ≤ s.size
                    · have q3 : (p2 : Int) ≤ (s.size : Int) := by omega
                      have e1 : ((s.extract a p2).toList == l) = false := by rw [beq_eq_false_iff_ne, list_of]; exact hx
                      have e2 : ((s.extract a p2).toList == (⟨l.toArray⟩ : ByteArray).toList) = false := by rw [beq_eq_false_iff_ne, list_of, list_of]; exact hx
                      clear hx
                      go_wp2_with fail
                      go_quiet (fail)
                      generalize hwq : wr.drewN _ = wq at *
                      have HBQ : Hid (Below ws.heap.size ws wq) := Lib.hid (by rw [← hwq]; exact below_drawn HBW.out _)
                      have k2 : wq.cell? ⟨bs, i, none⟩ = some (.string ⟨l.toArray⟩) := by rw [← hwq]; exact k1
                      have HTQ := Lib.hid (HTS.out.more HBQ.out)
                      clear c0 c1 c2 c3 f0 f2 f3 cl d0 d1 d2 d3 e0 e1 e2 e3 dl hwq k1
                      obtain ⟨⟨c0, c1, c2, c3, f0, f2, f3, cl⟩, d0, d1, d2, d3, e0, e1, e2, e3, dl⟩ := HTQ.out.cells
                      go_wp2_with fail
                      go_roundw
                      case rel => exact ⟨i + 1, by omega, by go_num, HBQ, HNX⟩
                      case measure => simp [intOf]; omega
                    · have q3 : ¬ (p2 : Int) ≤ (s.size : Int) := by omega
                      clear hx
                      go_wp2_with fail
                      go_quiet (fail)
                      generalize hwq : wr.drewN _ = wq at *
                      have HBQ : Hid (Below ws.heap.size ws wq) := Lib.hid (by rw [← hwq]; exact below_drawn HBW.out _)
                      have k2 : wq.cell? ⟨bs, i, none⟩ = some (.string ⟨l.toArray⟩) := by rw [← hwq]; exact k1
                      have HTQ := Lib.hid (HTS.out.more HBQ.out)
                      clear c0 c1 c2 c3 f0 f2 f3 cl d0 d1 d2 d3 e0 e1 e2 e3 dl hwq k1
                      obtain ⟨⟨c0, c1, c2, c3, f0, f2, f3, cl⟩, d0, d1, d2, d3, e0, e1, e2, e3, dl⟩ := HTQ.out.cells
                      go_wp2_with fail
                      go_roundw
                      case rel => exact ⟨i + 1, by omega, by go_num, HBQ, HNX⟩
                      case measure => simp [intOf]; omega
              · have g5 : decide ((i : Int) < 20) = false := decide_eq_false (by omega)
                obtain rfl : i = 20 := by omega
                have HR := Lib.hid (HRS.out.trans (HSN.out HN.out))
                go_wp2_with fail
                have HS := Lib.hid (tok_stored HTR.out.res HTR.out.below HTR.out.new 0 (a : Int) ⟨#[]⟩ 0 rfl)
                unfold tokSet at HS
                clear c0 c1 c2 c3 f0 f2 f3 cl d0 d1 d2 d3 e0 e1 e2 e3 dl
                generalize World.setCell _ _ _ = w9 at *
                exact bodyPost_ret (v := .tuple #[.agg #[.int .i64 0, .int .i64 (a : Int), .string ⟨#[]⟩, .int .i64 0], .int .i64 (a : Int), .int .i64 20]) (one_results HS.out.1 rfl rfl rfl rfl) rfl (refOne_err HR.out HS.out.2 0 [] 0 a)
      · have HR0 := Lib.hid (HR1.out.trans (if_neg h35))
        have B35 : ((c.toNat : Int) == 35) = false := (byte_ne (n := 35) (by decide)).2 h35
        clear HR1 h35
        go_wp2_with fail
        refine (HL3.out _).mono ?_
        rintro e w' ⟨rfl, rfl⟩
        cases hdg : isDig c with
        | true =>
          as_aux_lemma =>
            have HR1 := Lib.hid (HR0.out.trans (if_pos hdg))
            have hbu : (decide (48 ≤ c.toNat) && decide (c.toNat ≤ 57)) = true := hdg
            rw [hbu]
            clear hbu hdg HL3 HTL HR0 HSG HSY HSN HQQ
            have HRD : Hid (∀ W, Calls Tryd.prog 32 #[.string ⟨nm.toArray⟩] W (Two (ReadV nm).1 (ReadV nm).2 W)) := Lib.hid (fun W => ref_Read ⟨nm.toArray⟩ W (by
              have := HEN.out
              show nm.toArray.size ≤ _
              rw [List.size_toArray]
              unfold maxLen
              omega))
            generalize (ReadV nm).1 = vn at *
            generalize (ReadV nm).2 = ve at *
            go_wp2_with fail
            refine (HRUN.out _).mono ?_
            rintro e w' ⟨rfl, rfl⟩
            go_wp2_with fail
            rw [HXN.out]
            refine (HRD.out _).mono ?_
            rintro e w' ⟨rfl, rfl⟩
            have HTN := Lib.hid ((HTB2.out.setK 4).setN vn)
            rcases HRV.out with rfl | rfl | rfl
            · have HR := Lib.hid (HR1.out.trans (if_pos rfl))
              clear HR1
              go_wp2_with fail
              have HS := Lib.hid (tok_stored HTN.out.res HTN.out.below HTN.out.new 4 (a : Int) ⟨#[]⟩ vn rfl)
              unfold tokSet at HS
              clear c0 c1 c2 c3 f0 f2 f3 cl d0 d1 d2 d3 e0 e1 e2 e3 dl
              generalize World.setCell _ _ _ = w9 at *
              exact bodyPost_ret (v := .tuple #[.agg #[.int .i64 4, .int .i64 (a : Int), .string ⟨#[]⟩, .int .i64 vn], .int .i64 (en : Int), .int .i64 0]) (one_results HS.out.1 rfl rfl rfl rfl) rfl (by have := refOne_tok HR.out HS.out.2 (a := a); rw [HEN.out] at this; exact this)
            · have HR := Lib.hid (HR1.out.trans ((if_neg (by decide)).trans (congrArg OneR.err (if_neg (by decide)))))
              clear HR1
              go_wp2_with fail
              have HS := Lib.hid (tok_stored HTN.out.res HTN.out.below HTN.out.new 4 (a : Int) ⟨#[]⟩ vn rfl)
              unfold tokSet at HS
              clear c0 c1 c2 c3 f0 f2 f3 cl d0 d1 d2 d3 e0 e1 e2 e3 dl
              generalize World.setCell _ _ _ = w9 at *
              exact bodyPost_ret (v := .tuple #[.agg #[.int .i64 4, .int .i64 (a : Int), .string ⟨#[]⟩, .int .i64 vn], .int .i64 (en : Int), .int .i64 2]) (one_results HS.out.1 rfl rfl rfl rfl) rfl (refOne_err HR.out HS.out.2 4 [] vn en)
            · have HR := Lib.hid (HR1.out.trans ((if_neg (by decide)).trans (congrArg OneR.err (if_pos rfl))))
              clear HR1
              go_wp2_with fail
              have HS := Lib.hid (tok_stored HTB2.out.res HTB2.out.below HTB2.out.new 0 (a : Int) ⟨#[]⟩ 0 rfl)
              unfold tokSet at HS
              clear c0 c1 c2 c3 f0 f2 f3 cl d0 d1 d2 d3 e0 e1 e2 e3 dl
              generalize World.setCell _ _ _ = w9 at *
              exact bodyPost_ret (v := .tuple #[.agg #[.int .i64 0, .int .i64 (a : Int), .string ⟨#[]⟩, .int .i64 0], .int .i64 (a : Int), .int .i64 20]) (one_results HS.out.1 rfl rfl rfl rfl) rfl (refOne_err HR.out HS.out.2 0 [] 0 a)
        | false =>
          have HR2 := Lib.hid (HR0.out.trans (if_neg (by rw [hdg]; decide)))
          have hbu : (decide (48 ≤ c.toNat) && decide (c.toNat ≤ 57)) = false := hdg
          rw [hbu]
          clear hbu hdg HL3 HR0 HRUN HXN HRV HEN
          by_cases h34 : c = 34
          · have HL3 := HR2
            have HR0 := HR2
            as_aux_lemma =>
              have HR1 := Lib.hid (HR0.out.trans (if_pos h34))
              have B34 : ((c.toNat : Int) == 34) = true := by rw [h34]; rfl
              unfold strTok at HR1
              clear h34 HL3 HTL HR0 HSG HSY HSN
              have hqa : qsize (s.data.toList.drop a) ≤ s.size - a := by
                have := qsize_le (s.data.toList.drop a)
                rw [List.length_drop] at this
                exact this
              have hqe : quoEnd s a = if qsize (s.data.toList.drop a) = 0 then -1 else ((a + qsize (s.data.toList.drop a) : Nat) : Int) := rfl
              generalize quoEnd s a = qe at *
              have hmx := mid_is (s := s) (a := a) (n := qsize (s.data.toList.drop a)) rfl
              generalize qsize (s.data.toList.drop a) = q at *
              go_wp2_with fail
              refine (HQQ.out _).mono ?_
              rintro e w' ⟨rfl, rfl⟩
              by_cases hq : q = 0
              · subst hq
                obtain rfl : qe = -1 := hqe
                have HR := Lib.hid (HR1.out.trans (if_neg (by rw [unqV_form (Or.inl (by simp))]; decide)))
                clear HR1 hmx hqa
                go_wp2_with fail
                have HS := Lib.hid (tok_stored HTB2.out.res HTB2.out.below HTB2.out.new 0 (a : Int) ⟨#[]⟩ 0 rfl)
                unfold tokSet at HS
                clear c0 c1 c2 c3 f0 f2 f3 cl d0 d1 d2 d3 e0 e1 e2 e3 dl
                generalize World.setCell _ _ _ = w9 at *
                exact bodyPost_ret (v := .tuple #[.agg #[.int .i64 0, .int .i64 (a : Int), .string ⟨#[]⟩, .int .i64 0], .int .i64 (a : Int), .int .i64 20]) (one_results HS.out.1 rfl rfl rfl rfl) rfl (refOne_err HR.out HS.out.2 0 [] 0 a)
              · rw [if_neg hq] at hqe
                obtain ⟨p2, hp2⟩ : ∃ p2, a + q = p2 := ⟨_, rfl⟩
                rw [hp2] at hmx hqe
                subst hqe
                have hp3 : p2 ≤ s.size := by omega
                have q3 : (p2 : Int) ≤ (s.size : Int) := by omega
                have q4 : (a : Int) ≤ (p2 : Int) := by omega
                have hap : a ≤ p2 := by omega
                have q5 : ¬ (p2 : Int) < 0 := by omega
                have HMX := Lib.hid hmx
                have HP2 := Lib.hid hp2
                clear hmx hp2 hqa hq
                have HV := Lib.hid (fun W => ref_Unquote ⟨((s.data.toList.drop a).take q).toArray⟩ W (by
                  have := HP2.out
                  show ((s.data.toList.drop a).take q).toArray.size ≤ _
                  rw [List.size_toArray, List.length_take]
                  omega))
                have HV2 : Hid (∀ W, Calls Tryd.prog 34 #[.string ⟨((s.data.toList.drop a).take q).toArray⟩] W (StrErr (UnqV ((s.data.toList.drop a).take q)).1 (UnqV ((s.data.toList.drop a).take q)).2 W)) := HV
                clear HV
                have hv := unqV_err ((s.data.toList.drop a).take q)
                generalize (s.data.toList.drop a).take q = ql at *
                generalize UnqV ql = v at *
                obtain ⟨v1, v2⟩ := v
                simp only at HV2 hv HR1
                go_wp2_with fail
                rw [HMX.out]
                refine (HV2.out _).mono ?_
                rintro e w5 ⟨rfl, hb⟩
                have HT5 := Lib.hid (HTB2.out.more hb)
                clear hb
                clear c0 c1 c2 c3 f0 f2 f3 cl d0 d1 d2 d3 e0 e1 e2 e3 dl
                obtain ⟨⟨c0, c1, c2, c3, f0, f2, f3, cl⟩, d0, d1, d2, d3, e0, e1, e2, e3, dl⟩ := HT5.out.cells
                rcases hv with rfl | rfl
                · have HR := Lib.hid (HR1.out.trans (if_pos rfl))
                  clear HR1
                  have HT6 := Lib.hid ((HT5.out.setK 5).setX ⟨v1.toArray⟩)
                  go_wp2_with fail
                  have HS := Lib.hid (tok_stored HT6.out.res HT6.out.below HT6.out.new 5 (a : Int) ⟨v1.toArray⟩ 0 rfl)
                  unfold tokSet at HS
                  clear c0 c1 c2 c3 f0 f2 f3 cl d0 d1 d2 d3 e0 e1 e2 e3 dl
                  generalize World.setCell _ _ _ = w9 at *
                  exact bodyPost_ret (v := .tuple #[.agg #[.int .i64 5, .int .i64 (a : Int), .string ⟨v1.toArray⟩, .int .i64 0], .int .i64 (p2 : Int), .int .i64 0]) (one_results HS.out.1 rfl rfl rfl rfl) rfl (by have := refOne_tok HR.out HS.out.2 (a := a); rw [HP2.out] at this; exact this)
                · have HR := Lib.hid (HR1.out.trans (if_neg (by decide)))
                  clear HR1
                  go_wp2_with fail
                  have HS := Lib.hid (tok_stored HT5.out.res HT5.out.below HT5.out.new 0 (a : Int) ⟨#[]⟩ 0 rfl)
                  unfold tokSet at HS
                  clear c0 c1 c2 c3 f0 f2 f3 cl d0 d1 d2 d3 e0 e1 e2 e3 dl
                  generalize World.setCell _ _ _ = w9 at *
                  exact bodyPost_ret (v := .tuple #[.agg #[.int .i64 0, .int .i64 (a : Int), .string ⟨#[]⟩, .int .i64 0], .int .i64 (a : Int), .int .i64 20]) (one_results HS.out.1 rfl rfl rfl rfl) rfl (refOne_err HR.out HS.out.2 0 [] 0 a)
          · as_aux_lemma =>
              have HRS := Lib.hid (HR2.out.trans (if_neg h34))
              have B34 : ((c.toNat : Int) == 34) = false := (byte_ne (n := 34) (by decide)).2 h34
              clear HR2 h34 HQQ HTL
              go_wp2_with fail
              refine (HSG.out _).mono ?_
              rintro e ws ⟨bs, rfl, hb, hbs, hbn, hk⟩
              have hnb : bs ≠ b1 := by have := box_lt HTB2.out.tok; omega
              have hnb2 : b1 ≠ bs := fun h => hnb h.symm
              clear hbn
              have HTS := Lib.hid (HTB2.out.more hb)
              have HK := Lib.hid hk
              clear hb hk
              clear c0 c1 c2 c3 f0 f2 f3 cl d0 d1 d2 d3 e0 e1 e2 e3 dl
              obtain ⟨⟨c0, c1, c2, c3, f0, f2, f3, cl⟩, d0, d1, d2, d3, e0, e1, e2, e3, dl⟩ := HTS.out.cells
              go_wp2_with fail
              go_loopw [19] (fun vi wr => ∃ i : Nat, i ≤ 20 ∧ vi = .int .i64 i ∧ Hid (Below ws.heap.size ws wr) ∧ Hid (NoSign (s.data.toList.drop a) i)) (fun vi _ => 20 - (intOf vi).toNat)
              case atStart => exact ⟨0, by omega, by go_num, Lib.hid (Below.refl _ _), Lib.hid (fun j hj => absurd hj (by omega))⟩
              case round =>
                obtain ⟨i, hi, rfl, HBW, HN⟩ := hrel
                have HTR := Lib.hid (HTS.out.more HBW.out)
                clear c0 c1 c2 c3 f0 f2 f3 cl d0 d1 d2 d3 e0 e1 e2 e3 dl
                obtain ⟨⟨c0, c1, c2, c3, f0, f2, f3, cl⟩, d0, d1, d2, d3, e0, e1, e2, e3, dl⟩ := HTR.out.cells
                by_cases hi2 : i < 20
                · have g5 : decide ((i : Int) < 20) = true := decide_eq_true (by omega)
                  have g6 : (i : Int) < 20 := by omega
                  have g7 : (0 : Int) ≤ (i : Int) := by omega
                  have k1 := (HBW.out.cell (p := ⟨bs, i, none⟩) hbs).trans (HK.out i hi2)
                  have HS1 := Lib.hid (HSY.out i hi2 HN.out)
                  have HN2 : Hid ((signL.getD i []).isPrefixOf (s.data.toList.drop a) = false → NoSign (s.data.toList.drop a) (i + 1)) := Lib.hid (fun hf j hj => by
                    rcases Nat.lt_or_eq_of_le (Nat.le_of_lt_succ hj) with h1 | rfl
                    · exact HN.out j h1
                    · exact hf)
                  have hz := sign_size i hi2
                  have hsz : (⟨(signL.getD i []).toArray⟩ : ByteArray).size = (signL.getD i []).length := by show (signL.getD i []).toArray.size = _; rw [List.size_toArray]
                  generalize signL.getD i [] = l at *
                  generalize hn : l.length = n at *
                  obtain ⟨p2, hp2⟩ : ∃ p2, a + n = p2 := ⟨_, rfl⟩
                  have q2 : (a : Int) + (n : Int) = (p2 : Int) := by omega
                  have hap : a ≤ p2 := by omega
                  have q4 : (a : Int) ≤ (p2 : Int) := by omega
                  cases hp : l.isPrefixOf (s.data.toList.drop a) with
                  | true =>
                    as_aux_lemma =>
                      have HR9 := Lib.hid (HRS.out.trans (HS1.out hp))
                      obtain ⟨hp3, hp4⟩ := list_take_prefix hp
                      rw [List.length_drop, show s.data.toList.length = s.size from rfl] at hp3
                      rw [hn] at hp3 hp4
                      have hX := mid_is hp4
                      rw [hp2] at hX
                      have hp5 : p2 ≤ s.size := by omega
                      have q3 : (p2 : Int) ≤ (s.size : Int) := by omega
                      have HP2 := Lib.hid hp2
                      clear HS1 HN2 hp hp3 hp4 hn hp2
                      go_wp2_with fail
                      go_quiet (fail)
                      generalize hwq : wr.drewN _ = wq at *
                      have HBQ : Hid (Below ws.heap.size ws wq) := Lib.hid (by rw [← hwq]; exact below_drawn HBW.out _)
                      have k2 : wq.cell? ⟨bs, i, none⟩ = some (.string ⟨l.toArray⟩) := by rw [← hwq]; exact k1
                      have HTQ := Lib.hid (HTS.out.more HBQ.out)
                      clear c0 c1 c2 c3 f0 f2 f3 cl d0 d1 d2 d3 e0 e1 e2 e3 dl hwq k1
                      obtain ⟨⟨c0, c1, c2, c3, f0, f2, f3, cl⟩, d0, d1, d2, d3, e0, e1, e2, e3, dl⟩ := HTQ.out.cells
                      go_wp2_with fail
                      have HT := Lib.hid ((HTQ.out.setK 7).setX ⟨l.toArray⟩)
                      have HS := Lib.hid (tok_stored HT.out.res HT.out.below HT.out.new 7 (a : Int) ⟨l.toArray⟩ 0 rfl)
                      unfold tokSet at HS
                      clear c0 c1 c2 c3 f0 f2 f3 cl d0 d1 d2 d3 e0 e1 e2 e3 dl
                      generalize World.setCell _ _ _ = w9 at *
                      exact bodyPost_ret (v := .tuple #[.agg #[.int .i64 7, .int .i64 (a : Int), .string ⟨l.toArray⟩, .int .i64 0], .int .i64 (p2 : Int), .int .i64 0]) (one_results HS.out.1 rfl rfl rfl rfl) rfl (by have := refOne_tok HR9.out HS.out.2 (a := a); rw [HP2.out] at this; exact this)
                  | false =>
                    as_aux_lemma =>
                      have HNX := Lib.hid (HN2.out hp)
                      have hp4 := take_prefix hp
                      rw [hn] at hp4
                      have hx : (s.extract a p2).data.toList ≠ l := by rw [← hp2, extract_mid]; exact hp4
                      clear HS1 HN2 hp hp4 hn hp2
                      by_cases hp5 : p2 ≤ s.size
                      · have q3 : (p2 : Int) ≤ (s.size : Int) := by omega
                        have e1 : ((s.extract a p2).toList == l) = false := by rw [beq_eq_false_iff_ne, list_of]; exact hx
                        have e2 : ((s.extract a p2).toList == (⟨l.toArray⟩ : ByteArray).toList) = false := by rw [beq_eq_false_iff_ne, list_of, list_of]; exact hx
                        clear hx
                        go_wp2_with fail
                        go_quiet (fail)
                        generalize hwq : wr.drewN _ = wq at *
                        have HBQ : Hid (Below ws.heap.size ws wq) := Lib.hid (by rw [← hwq]; exact below_drawn HBW.out _)
                        have k2 : wq.cell? ⟨bs, i, none⟩ = some (.string ⟨l.toArray⟩) := by rw [← hwq]; exact k1
                        have HTQ := Lib.hid (HTS.out.more HBQ.out)
                        clear c0 c1 c2 c3 f0 f2 f3 cl d0 d1 d2 d3 e0 e1 e2 e3 dl hwq k1
                        obtain ⟨⟨c0, c1, c2, c3, f0, f2, f3, cl⟩, d0, d1, d2, d3, e0, e1, e2, e3, dl⟩ := HTQ.out.cells
                        go_wp2_with fail
                        go_roundw
                        case rel => exact ⟨i + 1, by omega, by go_num, HBQ, HNX⟩
                        case measure => simp [intOf]; omega
                      · have q3 : ¬ (p2 : Int) ≤ (s.size : Int) := by omega
                        clear hx
                        go_wp2_with fail
                        go_quiet (fail)
                        generalize hwq : wr.drewN _ = wq at *
                        have HBQ : Hid (Below ws.heap.size ws wq) := Lib.hid (by rw [← hwq]; exact below_drawn HBW.out _)
                        have k2 : wq.cell? ⟨bs, i, none⟩ = some (.string ⟨l.toArray⟩) := by rw [← hwq]; exact k1
                        have HTQ := Lib.hid (HTS.out.more HBQ.out)
                        clear c0 c1 c2 c3 f0 f2 f3 cl d0 d1 d2 d3 e0 e1 e2 e3 dl hwq k1
                        obtain ⟨⟨c0, c1, c2, c3, f0, f2, f3, cl⟩, d0, d1, d2, d3, e0, e1, e2, e3, dl⟩ := HTQ.out.cells
                        go_wp2_with fail
                        go_roundw
                        case rel => exact ⟨i + 1, by omega, by go_num, HBQ, HNX⟩
                        case measure => simp [intOf]; omega
                · have g5 : decide ((i : Int) < 20) = false := decide_eq_false (by omega)
                  obtain rfl : i = 20 := by omega
                  have HR := Lib.hid (HRS.out.trans (HSN.out HN.out))
                  go_wp2_with fail
                  have HS := Lib.hid (tok_stored HTR.out.res HTR.out.below HTR.out.new 0 (a : Int) ⟨#[]⟩ 0 rfl)
                  unfold tokSet at HS
                  clear c0 c1 c2 c3 f0 f2 f3 cl d0 d1 d2 d3 e0 e1 e2 e3 dl
                  generalize World.setCell _ _ _ = w9 at *
                  exact bodyPost_ret (v := .tuple #[.agg #[.int .i64 0, .int .i64 (a : Int), .string ⟨#[]⟩, .int .i64 0], .int .i64 (a : Int), .int .i64 20]) (one_results HS.out.1 rfl rfl rfl rfl) rfl (refOne_err HR.out HS.out.2 0 [] 0 a)
end Go.Proofs.YtigbapkdpaahjaaDoor
