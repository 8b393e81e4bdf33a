/-
  The walk of the law LexReads: whatever the input, it returns true and leaves what was there as it was. Condition: the variable of the signs holds what its initialiser lays.
-/
import Derived.Test.YtigbapkdpaahjaaDoorLRLex
namespace Go.Proofs.YtigbapkdpaahjaaDoor
open Go.RowKit
set_option maxRecDepth 100000 in
set_option maxHeartbeats 2000000 in
theorem same5_any (va vb : Value) (T : List (TK × Nat)) (A B : Nat) (w : World) (ha : TokRow A w va T) (hb : TokRow B w vb T) (hl : T.length ≤ 5000) : Calls Tryd.prog 11 #[va, vb] w (YesMade true w) := by
  obtain ⟨Ax, cx, rfl, hvx⟩ := ha.at_
  obtain ⟨Az, cz, rfl, hvz⟩ := hb.at_
  have HVX := Lib.hid hvx
  have HVZ := Lib.hid hvz
  have HG := Lib.hid (fun (i : Nat) (h : i < T.length) => (show ∃ t : TK × Nat, T[i]? = some t from ⟨T[i], List.getElem?_eq_getElem h⟩))
  have HZ := Lib.hid (Below.refl w.heap.size w)
  have A1 : ((T.length : Int) != (T.length : Int)) = false := by simp
  have A2 : (T.length != T.length) = false := by simp
  clear hvx hvz ha hb
  generalize hn : T.length = nx at *
  clear hn
  go_enter Tryd.func11, Tryd.ntmps11
  go_upto_region 3 with fail
  clear A1 A2
  go_wp2_with fail
  go_loopw [13] (fun vk w8 => ∃ k : Nat, k ≤ nx ∧ vk = .int .i64 k ∧ Hid (Below w.heap.size w w8)) (fun vk _ => nx - (intOf vk).toNat)
  case atStart => exact ⟨0, by omega, by go_num, HZ⟩
  case round =>
    obtain ⟨k, hk, rfl, HV⟩ := hrel
    by_cases hk2 : k < nx
    · obtain ⟨⟨⟨tk, tt, tn⟩, ta⟩, hx1⟩ := HG.out k hk2
      have h2 : decide ((k : Int) < (nx : Int)) = true := decide_eq_true (by omega)
      have h3 : (k : Int) < (nx : Int) := by omega
      have h4 : (0 : Int) ≤ (k : Int) := by omega
      have E4 : IntKind.i64.wrap (k : Int) = (k : Int) := by rw [IntKind.wrap_i64]; omega
      obtain ⟨gx, rfl, _, _, xl, x0, x1, x2, x3⟩ := HVX.out wr k _ hx1 HV.out
      obtain ⟨gz, rfl, _, _, zl, z0, z1, z2, z3⟩ := HVZ.out wr k _ hx1 HV.out
      simp only at x0 x1 x2 x3 z0 z1 z2 z3
      clear hx1
      go_upto_region 6 with fail
      go_region
      have HVN := Lib.hid (HV.out.trans (((Below.refl wr.heap.size wr).drew).mono HV.out.size))
      clear x0 x1 x2 x3 z0 z1 z2 z3 xl zl
      go_wp2_with fail
      go_roundw
      case rel => exact ⟨k + 1, by omega, by go_num, HVN⟩
      case measure => simp [intOf]; omega
    · have h2 : decide ((k : Int) < (nx : Int)) = false := decide_eq_false (by omega)
      have HEB := Lib.hid HV.out
      go_wp2_with fail
      go_ret
      exact ⟨rfl, HEB.out⟩
set_option maxRecDepth 100000 in
set_option maxHeartbeats 2000000 in
theorem law_Reads (s : ByteArray) (w : World) (hy : Syms w) (_hs : s.size ≤ 140737488355328) : Calls Tryd.prog 3 #[.string s] w (YesMade true w) := by
  have HY := Lib.hid hy
  clear hy
  go_enter Tryd.func3, Tryd.ntmps3
  go_wp2_with fail
  refine (awake5_any _ HY.out).mono ?_
  rintro e w1 ⟨rfl, hb1⟩
  have HB1 := Lib.hid hb1
  have HY1 := Lib.hid (HY.out.below hb1)
  have HL := Lib.hid (lex_Lex s w1 HY1.out)
  have HR := Lib.hid (fun W => ref_Lex s W)
  have HF := Lib.hid (lexV_form s.data.toList)
  have HLN := Lib.hid (lexGo_len 0 s.data.toList)
  rw [show s.data.toList.length = s.size from rfl] at HF HLN
  clear hb1 HY HY1
  go_wp2_with fail
  refine HL.out.mono ?_
  rintro e w2 h2
  rcases HF.out with ⟨X, hV, hX, hs⟩ | hbad
  · have hlen := HLN.out X hX
    rw [hV] at h2 HR
    obtain ⟨va, rfl, ra, hb2⟩ := h2
    have HB2 := Lib.hid (HB1.out.trans (hb2.mono HB1.out.size))
    have HA := Lib.hid ra
    have hln : (X ++ [((⟨0, [], 0⟩ : TK), s.size)]).length ≤ 5000 := by rw [List.length_append]; simp; omega
    clear ra hb2 hV hX hs hlen HF HLN HL
    generalize X ++ [((⟨0, [], 0⟩ : TK), s.size)] = TX at *
    go_wp2_with fail
    refine (HR.out _).mono ?_
    rintro e w3 ⟨vb, rfl, rb, hb3⟩
    have HB3 := Lib.hid (HB2.out.trans (hb3.mono HB2.out.size))
    have HS := Lib.hid (same5_any va vb TX _ _ w3 (HA.out.below hb3) rb hln)
    clear rb hb3 HR HA
    go_wp2_with fail
    refine HS.out.mono ?_
    rintro e w4 ⟨rfl, hb4⟩
    have HB4 := Lib.hid (HB3.out.trans (hb4.mono HB3.out.size))
    clear hb4 HS
    go_wp2_with fail
    go_ret
    exact ⟨rfl, HB4.out⟩
  · obtain ⟨er, q, hV⟩ : ∃ er q, LexV s.data.toList = .bad er q := by
      rcases hbad with ⟨h, _⟩ | ⟨e, q, h, _⟩
      · exact ⟨_, _, h⟩
      · exact ⟨_, _, h⟩
    rw [hV] at h2 HR
    obtain ⟨rfl, hb2⟩ := h2
    have HB2 := Lib.hid (HB1.out.trans (hb2.mono HB1.out.size))
    have B1 : (er == er) = true := by simp
    have B2 : ((q : Int) == (q : Int)) = true := by simp
    have B3 : (q == q) = true := by simp
    clear hb2 hV hbad HF HLN HL
    go_wp2_with fail
    refine (HR.out _).mono ?_
    rintro e w3 ⟨rfl, hb3⟩
    have HB3 := Lib.hid (HB2.out.trans (hb3.mono HB2.out.size))
    have HS := Lib.hid (same5_any _ _ [] 0 0 w3 (World.ownsRow_nil _ _ _ _) (World.ownsRow_nil _ _ _ _) (by simp))
    clear hb3 HR
    go_wp2_with fail
    refine HS.out.mono ?_
    rintro e w4 ⟨rfl, hb4⟩
    have HB4 := Lib.hid (HB3.out.trans (hb4.mono HB3.out.size))
    clear hb4 HS
    go_wp2_with fail
    go_ret
    exact ⟨rfl, HB4.out⟩
end Go.Proofs.YtigbapkdpaahjaaDoor
