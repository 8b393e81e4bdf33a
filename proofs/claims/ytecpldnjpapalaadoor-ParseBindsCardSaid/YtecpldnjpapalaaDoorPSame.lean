/-
  The document's own comparison of two rows of texts: the walk.
-/
import Derived.Test.YtecpldnjpapalaaDoorGTree
import Derived.Deep.QuietTactic
import Derived.BigQuiet
namespace Go.Proofs.YtecpldnjpapalaaDoor
open Go.RowKit
/-- A row of strings, in any later world. -/
theorem strs_at {w : World} {N : Nat → Prop} {v : Value} {l : List (List UInt8)} (h : RowIn w N 9 1 v l.length (strCells l)) : ∃ A c, v = .slice A l.length c ∧ l.length ≤ c ∧ l.length ≤ 9223372036854775807 ∧ ∀ (i : Nat) (x : List UInt8), l[i]? = some x → ∃ g o, A = some ⟨g, o, none⟩ ∧ g < w.heap.size ∧ w.cell? ⟨g, o + i, none⟩ = some (.string ⟨x.toArray⟩) := by
  obtain ⟨⟨a, c, rfl, hc, h1⟩, h2⟩ := h
  refine ⟨a, c, rfl, hc, h2, fun i x hx => ?_⟩
  rcases h1 with h1 | ⟨g, o, rfl, _, hg, hc⟩
  · have := (List.getElem?_eq_some_iff.1 hx).1
    omega
  · refine ⟨g, o, rfl, hg.lt, hc i _ ?_⟩
    unfold strCells
    rw [List.getElem?_map, hx]
    rfl
/-- Only draws. -/
def YesDrawn (b : Bool) (w : World) (e : Ending) (w' : World) : Prop := e = .returned (.bool b) ∧ ∃ m, w' = w.drewN m
theorem drewN_below (w : World) : ∀ m, Below w.heap.size w (w.drewN m)
  | 0 => ⟨rfl, rfl, rfl, Nat.le_refl _, fun _ _ => rfl⟩
  | _ + 1 => ⟨rfl, rfl, rfl, Nat.le_refl _, fun _ _ => rfl⟩
set_option maxRecDepth 100000 in
set_option maxHeartbeats 2000000 in
/-- Texts that are the same, or not. -/
theorem r_texts (va vb : Value) (l m : List (List UInt8)) (M N : Nat → Prop) (w : World) (ha : RowIn w M 9 1 va l.length (strCells l)) (hb : RowIn w N 9 1 vb m.length (strCells m)) : Calls Tryd.prog 34 #[va, vb] w (YesDrawn (decide (l = m)) w) := by
  obtain ⟨Ax, cx, rfl, hcx, hlx, hvx⟩ := strs_at ha
  obtain ⟨Az, cz, rfl, hcz, hlz, hvz⟩ := strs_at hb
  have HVX := Lib.hid hvx
  have HVZ := Lib.hid hvz
  clear hvx hvz ha hb
  by_cases hn : l.length = m.length
  · have HG := Lib.hid (fun (i : Nat) (h : i < l.length) => (show ∃ t u : List UInt8, l[i]? = some t ∧ m[i]? = some u from ⟨l[i], m[i]'(by omega), List.getElem?_eq_getElem h, List.getElem?_eq_getElem _⟩))
    have HEQ : Hid ((∀ (i : Nat), i < l.length → l[i]? = m[i]?) → l = m) := Lib.hid (fun h => List.ext_getElem? fun i => by
      by_cases hi : i < l.length
      · exact h i hi
      · rw [List.getElem?_eq_none (by omega), List.getElem?_eq_none (by omega)])
    have A1 : ((l.length : Int) != (l.length : Int)) = false := by simp
    have A2 : (l.length != l.length) = false := by simp
    rw [← hn] at hlz hcz ⊢
    clear hn hcx hcz hlz
    obtain ⟨bb, HB⟩ : ∃ b, Hid (decide (l = m) = b) := ⟨_, Lib.hid rfl⟩
    rw [HB.out]
    generalize l.length = nx at *
    go_enter Tryd.func34, Tryd.ntmps34
    go_upto_region 3 with fail
    clear A1 A2
    go_wp2_with fail
    go_loopw [5] (fun vk w8 => ∃ k n : Nat, k ≤ nx ∧ vk = .int .i64 k ∧ w8 = w.drewN n ∧ Hid (∀ i, i < k → l[i]? = m[i]?)) (fun vk _ => nx - (intOf vk).toNat)
    case atStart => exact ⟨0, 0, by omega, by go_num, rfl, Lib.hid (fun i hi => absurd hi (by omega))⟩
    case round =>
      obtain ⟨k, n, hk, rfl, rfl, HV⟩ := hrel
      by_cases hk2 : k < nx
      · obtain ⟨tx, tz, hx1, hz1⟩ := HG.out k hk2
        have h2 : decide ((k : Int) < (nx : Int)) = true := decide_eq_true (by omega)
        have h3 : (k : Int) < (nx : Int) := by omega
        have h4 : (0 : Int) ≤ (k : Int) := by omega
        have E4 : IntKind.i64.wrap (k : Int) = (k : Int) := by rw [IntKind.wrap_i64]; omega
        have E5 : IntKind.i64.wrap ((k : Int) + 1) = (k : Int) + 1 := by rw [IntKind.wrap_i64]; omega
        obtain ⟨gx, ox, rfl, xl, x0⟩ := HVX.out k _ hx1
        obtain ⟨gz, oz, rfl, zl, z0⟩ := HVZ.out k _ hz1
        by_cases ht : tx = tz
        · subst ht
          have HN : Hid (∀ i, i < k + 1 → l[i]? = m[i]?) := Lib.hid (fun i hi => by
            by_cases h : i < k
            · exact HV.out i h
            · obtain rfl : i = k := by omega
              rw [hx1, hz1])
          clear hx1 hz1
          go_upto_region 6 with fail
          go_quiet (fail)
          clear x0 z0 xl zl
          go_wp2_with fail
          go_roundw
          case rel => exact ⟨k + 1, _, by omega, by go_num, rfl, HN⟩
          case measure => simp [intOf]; omega
        · have HN : Hid (bb = false) := Lib.hid (by
            rw [← HB.out]
            refine decide_eq_false fun e => ht ?_
            rw [e, hz1] at hx1
            exact (Option.some.inj hx1).symm)
          have hq : (tx == tz) = false := beq_eq_false_iff_ne.2 ht
          clear hx1 hz1 ht
          go_upto_region 6 with fail
          go_quiet (fail)
          go_wp2_with fail
          go_ret
          exact ⟨by rw [HN.out]; rfl, _, by first | rfl | exact World.drewN_drewN _ _ _⟩
      · have h2 : decide ((k : Int) < (nx : Int)) = false := decide_eq_false (by omega)
        have HN : Hid (bb = true) := Lib.hid (by
          rw [← HB.out]
          exact decide_eq_true (HEQ.out fun i hi => HV.out i (by omega)))
        go_wp2_with fail
        go_ret
        exact ⟨by rw [HN.out]; rfl, _, rfl⟩
  · have A1 : ((l.length : Int) != (m.length : Int)) = true := by rw [bne_iff_ne]; omega
    have A2 : (l.length != m.length) = true := by rw [bne_iff_ne]; exact hn
    have HB : Hid (decide (l = m) = false) := Lib.hid (decide_eq_false fun e => hn (by rw [e]))
    rw [HB.out]
    generalize l.length = nx at *
    generalize m.length = nz at *
    go_enter Tryd.func34, Tryd.ntmps34
    go_wp2_with fail
    go_ret
    exact ⟨rfl, 0, rfl⟩
end Go.Proofs.YtecpldnjpapalaaDoor
