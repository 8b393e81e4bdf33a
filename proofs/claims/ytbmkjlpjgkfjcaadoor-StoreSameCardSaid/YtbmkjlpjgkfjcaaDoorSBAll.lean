/-
  The calls of the objects without end, of the law StoreSame: set, get.
  What the law StoreSame asks after each step: the same numbers, and the same objects in the same registers.
  The law StoreSame: a store, its registers, the objects without end and the step at hand side by side.
  A row of values, as it is made.
  The law StoreSame: what the store's Set and Get and those of the objects without end answer, side by side.
-/
import Derived.Test.YtbmkjlpjgkfjcaaDoorSSAll
import Derived.Deep.QuietTactic
import Derived.BigQuiet
namespace Go.Proofs.YtbmkjlpjgkfjcaaDoor
open Go.RowKit
def tvV (v : TV) : Value := .agg #[.bool v.isNum, .int .i64 v.val]
def SetRow (g k : Nat) (u : TV) (w : World) (e : Ending) (w' : World) : Prop := e = .returned (.bool true) ∧ ∃ w2, Below w.heap.size w w2 ∧ w' = setTwo w2 g k u
section
variable {w : World} {U : Nat → Prop} {tb vb nk : Nat} {T : List (List TV)} {Q : List TV} {G : List Nat} {vk vf : Value}
theorem TwinMem.seen (h : TwinMem w U tb vb nk T Q G vk vf) : ∃ A c, vf = .slice A T.length c ∧ ∀ (i g : Nat) (l : List TV), G[i]? = some g → T[i]? = some l → ∃ b, A = some ⟨b, 0, none⟩ ∧ b < w.heap.size ∧ w.cell? ⟨b, i, none⟩ = some (.slice (some ⟨g, 0, none⟩) l.length l.length) := by
  obtain ⟨A, c, h1, h2⟩ := h.rows.view
  refine ⟨A, c, h1, fun i g l hg hl => ?_⟩
  obtain ⟨b, hb, hl2, _, hc⟩ := h2 i _ (rowVals_at hg hl)
  exact ⟨b, hb, hl2, hc⟩
set_option maxHeartbeats 1000000 in
theorem tset_num (w : World) (tb : Nat) (n : Int) (i : Int) (u : TV) :
    Calls Tryd.prog 56 #[.pointer (some ⟨tb, 0, none⟩), tvV (.num n), .int .i64 i, tvV u, .int .i64 7] w (YesMade true w) := by
  unfold tvV
  generalize u.isNum = un at *
  generalize u.val = uv at *
  show Calls _ _ #[_, .agg #[.bool true, .int .i64 n], _, .agg #[.bool un, .int .i64 uv], _] _ _
  have HB := Lib.hid ((below_one (w := w) (.cells #[.bool true, .int .i64 n] 83)).trans ((below_one (.cells #[.bool un, .int .i64 uv] 83)).mono (by simp)))
  go_enter Tryd.func56, Tryd.ntmps56
  go_wp2_with fail
  go_ret
  exact ⟨rfl, HB.out⟩
set_option maxHeartbeats 1000000 in
theorem tset_in (h : TwinMem w U tb vb nk T Q G vk vf) {j g k : Nat} {vs : List TV} (hg : G[j]? = some g) (hj : T[j]? = some vs) (hk : k < vs.length) (hT : T.length ≤ 1000000) (u : TV) :
    Calls Tryd.prog 56 #[.pointer (some ⟨tb, 0, none⟩), tvV (.obj j), .int .i64 (k : Int), tvV u, .int .i64 0] w (SetRow g k u w) := by
  obtain ⟨A, c, rfl, hs⟩ := h.seen
  obtain ⟨b, rfl, hb, kb⟩ := hs j g vs hg hj
  have hjl := at_lt hj
  have htl := lt_of_heap h.head
  have kt : w.cell? ⟨tb, 1, none⟩ = some (.slice (some ⟨b, 0, none⟩) T.length c) := by rw [Lib.cell_of_heap h.head]; rfl
  have g3 : (j : Int) < (T.length : Int) := by omega
  have g4 : (0 : Int) ≤ (j : Int) := by omega
  have E1 : IntKind.i64.wrap (j : Int) = (j : Int) := by rw [IntKind.wrap_i64]; omega
  have d1 : decide ((k : Int) < 0) = false := decide_eq_false (by omega)
  have d2 : decide ((vs.length : Int) ≤ (k : Int)) = false := decide_eq_false (by omega)
  have d3 : decide (vs.length ≤ k) = false := decide_eq_false (by omega)
  have hr := (h.each j g vs hg hj).2
  have hgl := hr.lt
  obtain ⟨z0, z1⟩ := hr.cells (List.getElem?_eq_getElem hk)
  have f0 := hr.frozen (k * 2)
  have f1 := hr.frozen (k * 2 + 1)
  generalize (vs[k]).isNum = q0 at *
  generalize (vs[k]).val = q1 at *
  clear hs h hg hj hr
  unfold tvV
  show Calls _ _ #[_, .agg #[.bool false, .int .i64 (j : Int)], _, .agg #[.bool u.isNum, .int .i64 u.val], _] _ _
  generalize hun : u.isNum = un at *
  generalize huv : u.val = uv at *
  have HU := Lib.hid hun
  have HV := Lib.hid huv
  clear hun huv
  go_enter Tryd.func56, Tryd.ntmps56
  go_upto_region 3 with fail
  go_quiet (fail)
  have HB := Lib.hid (below_drewN ((below_one (w := w) (.cells #[.bool false, .int .i64 (j : Int)] 83)).trans ((below_one (.cells #[.bool un, .int .i64 uv] 83)).mono (by simp))) nq)
  go_wp2_with fail
  go_ret
  exact ⟨rfl, _, HB.out, by unfold setTwo; rw [HU.out, HV.out]⟩
set_option maxHeartbeats 1000000 in
theorem tset_out (h : TwinMem w U tb vb nk T Q G vk vf) {j : Nat} {vs : List TV} (hj : T[j]? = some vs) (i : Int) (hi : i < 0 ∨ (vs.length : Int) ≤ i) (hT : T.length ≤ 1000000) (u : TV) :
    Calls Tryd.prog 56 #[.pointer (some ⟨tb, 0, none⟩), tvV (.obj j), .int .i64 i, tvV u, .int .i64 2] w (YesMade true w) := by
  obtain ⟨g, hg, hr, _⟩ := h.row hj
  obtain ⟨A, c, rfl, hs⟩ := h.seen
  obtain ⟨b, rfl, hb, kb⟩ := hs j g vs hg hj
  have hjl := at_lt hj
  have htl := lt_of_heap h.head
  have kt : w.cell? ⟨tb, 1, none⟩ = some (.slice (some ⟨b, 0, none⟩) T.length c) := by rw [Lib.cell_of_heap h.head]; rfl
  have g3 : (j : Int) < (T.length : Int) := by omega
  have g4 : (0 : Int) ≤ (j : Int) := by omega
  have E1 : IntKind.i64.wrap (j : Int) = (j : Int) := by rw [IntKind.wrap_i64]; omega
  clear hs h hg hj hr
  unfold tvV
  show Calls _ _ #[_, .agg #[.bool false, .int .i64 (j : Int)], _, .agg #[.bool u.isNum, .int .i64 u.val], _] _ _
  generalize u.isNum = un at *
  generalize u.val = uv at *
  by_cases hi0 : i < 0
  · have d1 : decide (i < 0) = true := decide_eq_true hi0
    clear hi
    go_enter Tryd.func56, Tryd.ntmps56
    go_upto_region 3 with fail
    go_quiet (fail)
    have HB := Lib.hid (below_drewN ((below_one (w := w) (.cells #[.bool false, .int .i64 (j : Int)] 83)).trans ((below_one (.cells #[.bool un, .int .i64 uv] 83)).mono (by simp))) nq)
    go_wp2_with fail
    go_ret
    exact ⟨rfl, HB.out⟩
  · have d1 : decide (i < 0) = false := decide_eq_false hi0
    have d2 : decide ((vs.length : Int) ≤ i) = true := decide_eq_true (by omega)
    clear hi
    go_enter Tryd.func56, Tryd.ntmps56
    go_upto_region 3 with fail
    go_quiet (fail)
    have HB := Lib.hid (below_drewN ((below_one (w := w) (.cells #[.bool false, .int .i64 (j : Int)] 83)).trans ((below_one (.cells #[.bool un, .int .i64 uv] 83)).mono (by simp))) nq)
    go_wp2_with fail
    go_ret
    exact ⟨rfl, HB.out⟩
def GetIs (v : Value) (b : Bool) (w : World) (e : Ending) (w' : World) : Prop := e = .returned (.tuple #[v, .bool b]) ∧ Below w.heap.size w w'
set_option maxHeartbeats 1000000 in
theorem tget_num (w : World) (tb : Nat) (n : Int) (i : Int) :
    Calls Tryd.prog 58 #[.pointer (some ⟨tb, 0, none⟩), tvV (.num n), .int .i64 i] w (GetIs (.agg #[.bool false, .int .i64 0]) false w) := by
  unfold tvV
  show Calls _ _ #[_, .agg #[.bool true, .int .i64 n], _] _ _
  go_enter Tryd.func58, Tryd.ntmps58
  go_upto_region 1 with fail
  go_quiet (fail)
  go_wp2_with fail
  have HB := Lib.hid (((below_drewN ((below_one (w := w) (.cells #[.bool true, .int .i64 n] 83)).trans ((below_one (.cells #[.bool false, .int .i64 0] 83)).mono (by simp))) nq).setCell (p := ⟨w.heap.size + 1, 0, none⟩) (Nat.le_succ _) (.bool false)).setCell (p := ⟨w.heap.size + 1, 1, none⟩) (Nat.le_succ _) (.int .i64 0))
  exact bodyPost_ret (v := .tuple #[.agg #[.bool false, .int .i64 0], .bool false]) (by simp [results, Tryd.results58, go_sem]) rfl ⟨rfl, HB.out⟩
set_option maxHeartbeats 1000000 in
theorem tget_in (h : TwinMem w U tb vb nk T Q G vk vf) {j k : Nat} {vs : List TV} {u : TV} (hj : T[j]? = some vs) (hk : vs[k]? = some u) (hT : T.length ≤ 1000000) :
    Calls Tryd.prog 58 #[.pointer (some ⟨tb, 0, none⟩), tvV (.obj j), .int .i64 (k : Int)] w (GetIs (tvV u) true w) := by
  obtain ⟨g, hg, hr, _⟩ := h.row hj
  obtain ⟨A, c, rfl, hs⟩ := h.seen
  obtain ⟨b, rfl, hb, kb⟩ := hs j g vs hg hj
  have hjl := at_lt hj
  have hkl := at_lt hk
  have htl := lt_of_heap h.head
  have hgl := hr.lt
  have kt : w.cell? ⟨tb, 1, none⟩ = some (.slice (some ⟨b, 0, none⟩) T.length c) := by rw [Lib.cell_of_heap h.head]; rfl
  obtain ⟨z0, z1⟩ := hr.cells hk
  have g3 : (j : Int) < (T.length : Int) := by omega
  have g4 : (0 : Int) ≤ (j : Int) := by omega
  have g5 : (k : Int) < (vs.length : Int) := by omega
  have g6 : (0 : Int) ≤ (k : Int) := by omega
  have E1 : IntKind.i64.wrap (j : Int) = (j : Int) := by rw [IntKind.wrap_i64]; omega
  have d1 : decide ((k : Int) < 0) = false := decide_eq_false (by omega)
  have d2 : decide ((vs.length : Int) ≤ (k : Int)) = false := decide_eq_false (by omega)
  have d3 : decide (vs.length ≤ k) = false := decide_eq_false (by omega)
  clear hs h hg hj hr hk
  unfold tvV
  show Calls _ _ #[_, .agg #[.bool false, .int .i64 (j : Int)], _] _ _
  generalize u.isNum = un at *
  generalize u.val = uv at *
  go_enter Tryd.func58, Tryd.ntmps58
  go_upto_region 1 with fail
  go_quiet (fail)
  go_upto_region 3 with fail
  go_region
  go_wp2_with fail
  have HB := Lib.hid (((below_drewN ((below_one (w := w) (.cells #[.bool false, .int .i64 (j : Int)] 83)).trans ((below_one (.cells #[.bool false, .int .i64 0] 83)).mono (by simp))) (nq + 1)).setCell (p := ⟨w.heap.size + 1, 0, none⟩) (Nat.le_succ _) (.bool un)).setCell (p := ⟨w.heap.size + 1, 1, none⟩) (Nat.le_succ _) (.int .i64 uv))
  exact bodyPost_ret (v := .tuple #[.agg #[.bool un, .int .i64 uv], .bool true]) (by simp [results, Tryd.results58, go_sem]) rfl ⟨rfl, HB.out⟩
set_option maxHeartbeats 1000000 in
theorem tget_out (h : TwinMem w U tb vb nk T Q G vk vf) {j : Nat} {vs : List TV} (hj : T[j]? = some vs) (i : Int) (hi : i < 0 ∨ (vs.length : Int) ≤ i) (hT : T.length ≤ 1000000) :
    Calls Tryd.prog 58 #[.pointer (some ⟨tb, 0, none⟩), tvV (.obj j), .int .i64 i] w (GetIs (.agg #[.bool false, .int .i64 0]) false w) := by
  obtain ⟨g, hg, hr, _⟩ := h.row hj
  obtain ⟨A, c, rfl, hs⟩ := h.seen
  obtain ⟨b, rfl, hb, kb⟩ := hs j g vs hg hj
  have hjl := at_lt hj
  have htl := lt_of_heap h.head
  have kt : w.cell? ⟨tb, 1, none⟩ = some (.slice (some ⟨b, 0, none⟩) T.length c) := by rw [Lib.cell_of_heap h.head]; rfl
  have g3 : (j : Int) < (T.length : Int) := by omega
  have g4 : (0 : Int) ≤ (j : Int) := by omega
  have E1 : IntKind.i64.wrap (j : Int) = (j : Int) := by rw [IntKind.wrap_i64]; omega
  clear hs h hg hj hr
  unfold tvV
  show Calls _ _ #[_, .agg #[.bool false, .int .i64 (j : Int)], _] _ _
  by_cases hi0 : i < 0
  · have d1 : decide (i < 0) = true := decide_eq_true hi0
    clear hi
    go_enter Tryd.func58, Tryd.ntmps58
    go_upto_region 1 with fail
    go_quiet (fail)
    go_wp2_with fail
    have HB := Lib.hid (((below_drewN ((below_one (w := w) (.cells #[.bool false, .int .i64 (j : Int)] 83)).trans ((below_one (.cells #[.bool false, .int .i64 0] 83)).mono (by simp))) nq).setCell (p := ⟨w.heap.size + 1, 0, none⟩) (Nat.le_succ _) (.bool false)).setCell (p := ⟨w.heap.size + 1, 1, none⟩) (Nat.le_succ _) (.int .i64 0))
    exact bodyPost_ret (v := .tuple #[.agg #[.bool false, .int .i64 0], .bool false]) (by simp [results, Tryd.results58, go_sem]) rfl ⟨rfl, HB.out⟩
  · have d1 : decide (i < 0) = false := decide_eq_false hi0
    have d2 : decide ((vs.length : Int) ≤ i) = true := decide_eq_true (by omega)
    clear hi
    go_enter Tryd.func58, Tryd.ntmps58
    go_upto_region 1 with fail
    go_quiet (fail)
    go_wp2_with fail
    have HB := Lib.hid (((below_drewN ((below_one (w := w) (.cells #[.bool false, .int .i64 (j : Int)] 83)).trans ((below_one (.cells #[.bool false, .int .i64 0] 83)).mono (by simp))) nq).setCell (p := ⟨w.heap.size + 1, 0, none⟩) (Nat.le_succ _) (.bool false)).setCell (p := ⟨w.heap.size + 1, 1, none⟩) (Nat.le_succ _) (.int .i64 0))
    exact bodyPost_ret (v := .tuple #[.agg #[.bool false, .int .i64 0], .bool false]) (by simp [results, Tryd.results58, go_sem]) rfl ⟨rfl, HB.out⟩
end
structure Alike (regs : List Nat) (Q : List TV) : Prop where
  num : ∀ (i : Nat) (n : Int), Q[i]? = some (.num n) → regs.getD i 0 % 2 = 1 ∧ WNum (regs.getD i 0 : Nat) = n
  obj : ∀ (i a : Nat), Q[i]? = some (.obj a) → regs.getD i 0 % 2 ≠ 1
  two : ∀ (i k a b : Nat), Q[i]? = some (.obj a) → Q[k]? = some (.obj b) → (regs.getD i 0 = regs.getD k 0 ↔ a = b)
theorem Same.alike {regs : List Nat} {s : GS} {T : List (List TV)} {Q : List TV} {f : Nat → Nat} (h : Same regs s T Q f) : Alike regs Q := ⟨fun i _ hi => h.rel i _ hi, fun i _ hi => (h.rel i _ hi).even, fun _ _ _ _ h1 h2 => h.alike2 h1 h2⟩
set_option maxHeartbeats 4000000 in
set_option maxRecDepth 100000 in
theorem alike_any (rb vb : Nat) (regs : List Nat) (Q : List TV) (w : World) (hrow : ∀ i, i < 8 → w.cell? ⟨rb, i, none⟩ = some (.int .u64 (regs.getD i 0 : Nat))) (hrl : rb < w.heap.size) (hsm : ∀ i, i < 8 → regs.getD i 0 < 18446744073709551616) (hv : ValRow w vb Q) (hQ : Q.length = 8) (h : Alike regs Q) :
    Calls Tryd.prog 62 #[.slice (some ⟨rb, 0, none⟩) 8 8, .slice (some ⟨vb, 0, none⟩) 8 8] w (YesMade true w) := by
  have HR := Lib.hid hrow
  have HV := Lib.hid hv
  have HA := Lib.hid h
  have HS := Lib.hid hsm
  have HQ := Lib.hid hQ
  have hvl := hv.lt
  clear hrow hv h hsm hQ
  go_enter Tryd.func62, Tryd.ntmps62
  go_wp2_with fail
  go_loopw [9] (fun v9 wr => ∃ i : Nat, i ≤ 8 ∧ v9 = .int .i64 i ∧ Hid (Below w.heap.size w wr)) (fun v9 _ => 8 - (intOf v9).toNat)
  case atStart => exact ⟨0, by omega, by go_num, Lib.hid (Below.refl _ _)⟩
  case round =>
    obtain ⟨i, hi, rfl, HB⟩ := hrel
    by_cases hi8 : i < 8
    · have g1 : decide ((i : Int) < 8) = true := decide_eq_true (by omega)
      have g3 : (i : Int) < 8 := by omega
      have g4 : (0 : Int) ≤ (i : Int) := by omega
      have E1 : IntKind.i64.wrap (i : Int) = (i : Int) := by rw [IntKind.wrap_i64]; omega
      have hil : i < Q.length := by rw [HQ.out]; exact hi8
      have hqi : Q[i]? = some Q[i] := List.getElem?_eq_getElem hil
      have ka := (HB.out.cell (p := ⟨rb, i, none⟩) hrl).trans (HR.out i hi8)
      obtain ⟨c0, c1⟩ := HV.out.cells hqi
      have kv0 := (HB.out.cell (p := ⟨vb, i * 2, none⟩) hvl).trans c0
      have kv1 := (HB.out.cell (p := ⟨vb, i * 2 + 1, none⟩) hvl).trans c1
      have hx := HS.out i hi8
      have hrb : rb < wr.heap.size := Nat.lt_of_lt_of_le hrl HB.out.size
      have hvb : vb < wr.heap.size := Nat.lt_of_lt_of_le hvl HB.out.size
      clear c0 c1
      cases hq : Q[i] with
      | num n =>
        rw [hq] at kv0 kv1 hqi
        have h1 := HA.out.num i n hqi
        replace kv0 : wr.cell? ⟨vb, i * 2, none⟩ = some (.bool true) := kv0
        replace kv1 : wr.cell? ⟨vb, i * 2 + 1, none⟩ = some (.int .i64 n) := kv1
        have HIS := Lib.hid (fun W => isNum_any (regs.getD i 0) hx W)
        rw [decide_eq_true h1.1] at HIS
        have HNU := Lib.hid (fun W => word_Num (regs.getD i 0 : Nat) W (by omega) (by omega))
        rw [h1.2] at HNU
        clear h1 hq hx
        generalize hxx : regs.getD i 0 = x at *
        clear hxx
        go_upto_region 4 with fail
        go_quiet (first | (go_at_call 48; exact Calls.quiet_of_same ((HIS.out _).mono fun e w' hh => ⟨hh.1, hh.2.symm⟩)) | (go_at_call 103; exact Calls.quiet_of_same ((HNU.out _).mono fun e w' hh => ⟨hh.1, hh.2.symm⟩)))
        have HQI := Lib.hid hqi
        have HB2 := Lib.hid (below_drewN HB.out nq)
        clear hqi HB ka kv0 kv1 hrb hvb HIS HNU
        generalize wr.drewN nq = w5 at *
        go_wp2_with fail
        go_loopw [6] (fun v6 wr => ∃ k : Nat, k ≤ i ∧ v6 = .int .i64 k ∧ Hid (Below w.heap.size w wr)) (fun v6 _ => i - (intOf v6).toNat)
        case atStart => exact ⟨0, by omega, by go_num, HB2⟩
        case round =>
          clear HB2
          obtain ⟨k, hk, rfl, HBK⟩ := hrel
          by_cases hki : k < i
          · have g2 : decide ((k : Int) < (i : Int)) = true := decide_eq_true (by omega)
            have g2' : decide (k < i) = true := decide_eq_true hki
            have kv0 := (HBK.out.cell (p := ⟨vb, i * 2, none⟩) hvl).trans (HV.out.cells HQI.out).1
            have hvb : vb < wr.heap.size := Nat.lt_of_lt_of_le hvl HBK.out.size
            replace kv0 : wr.cell? ⟨vb, i * 2, none⟩ = some (.bool true) := kv0
            go_upto_region 9 with fail
            go_quiet (fail)
            go_wp2_with fail
            go_roundw
            case rel => exact ⟨k + 1, by omega, by go_num, Lib.hid (below_drewN HBK.out _)⟩
            case measure => simp [intOf]; omega
          · have g2 : decide ((k : Int) < (i : Int)) = false := decide_eq_false (by omega)
            have g2' : decide (k < i) = false := decide_eq_false hki
            go_wp2_with fail
            go_roundw
            case rel => exact ⟨i + 1, by omega, by go_num, HBK⟩
            case measure => simp [intOf]; omega
      | obj a =>
        rw [hq] at kv0 kv1 hqi
        have h1 := HA.out.obj i a hqi
        replace kv0 : wr.cell? ⟨vb, i * 2, none⟩ = some (.bool false) := kv0
        replace kv1 : wr.cell? ⟨vb, i * 2 + 1, none⟩ = some (.int .i64 (a : Int)) := kv1
        have HIS := Lib.hid (fun W => isNum_any (regs.getD i 0) hx W)
        rw [decide_eq_false h1] at HIS
        clear h1 hq hx
        generalize hxx : regs.getD i 0 = x at *
        clear hxx
        go_upto_region 4 with fail
        go_quiet ((go_at_call 48; exact Calls.quiet_of_same ((HIS.out _).mono fun e w' hh => ⟨hh.1, hh.2.symm⟩)))
        have HQI := Lib.hid hqi
        have HB2 := Lib.hid (below_drewN HB.out nq)
        clear hqi HB ka kv0 kv1 hrb hvb HIS
        generalize wr.drewN nq = w5 at *
        go_wp2_with fail
        go_loopw [6] (fun v6 wr => ∃ k : Nat, k ≤ i ∧ v6 = .int .i64 k ∧ Hid (Below w.heap.size w wr)) (fun v6 _ => i - (intOf v6).toNat)
        case atStart => exact ⟨0, by omega, by go_num, HB2⟩
        case round =>
          clear HB2
          obtain ⟨k, hk, rfl, HBK⟩ := hrel
          by_cases hki : k < i
          · have g2 : decide ((k : Int) < (i : Int)) = true := decide_eq_true (by omega)
            have g2' : decide (k < i) = true := decide_eq_true hki
            have kv0 := (HBK.out.cell (p := ⟨vb, i * 2, none⟩) hvl).trans (HV.out.cells HQI.out).1
            have hvb : vb < wr.heap.size := Nat.lt_of_lt_of_le hvl HBK.out.size
            have g5 : (k : Int) < 8 := by omega
            have g6 : (0 : Int) ≤ (k : Int) := by omega
            have E2 : IntKind.i64.wrap (k : Int) = (k : Int) := by rw [IntKind.wrap_i64]; omega
            replace kv0 : wr.cell? ⟨vb, i * 2, none⟩ = some (.bool false) := kv0
            have kv1 : wr.cell? ⟨vb, i * 2 + 1, none⟩ = some (.int .i64 (a : Int)) := (HBK.out.cell (p := ⟨vb, i * 2 + 1, none⟩) hvl).trans (HV.out.cells HQI.out).2
            have ka := (HBK.out.cell (p := ⟨rb, i, none⟩) hrl).trans (HR.out i hi8)
            have kc := (HBK.out.cell (p := ⟨rb, k, none⟩) hrl).trans (HR.out k (by omega))
            have hrb : rb < wr.heap.size := Nat.lt_of_lt_of_le hrl HBK.out.size
            have hqk : Q[k]? = some (Q[k]'(by omega)) := List.getElem?_eq_getElem (by omega)
            obtain ⟨d0, d1⟩ := HV.out.cells hqk
            have ku0 := (HBK.out.cell (p := ⟨vb, k * 2, none⟩) hvl).trans d0
            have ku1 := (HBK.out.cell (p := ⟨vb, k * 2 + 1, none⟩) hvl).trans d1
            clear d0 d1
            cases hqq : (Q[k]'(by omega)) with
            | num n =>
              rw [hqq] at ku0 ku1
              replace ku0 : wr.cell? ⟨vb, k * 2, none⟩ = some (.bool true) := ku0
              clear hqq hqk ku1 ka kc
              go_upto_region 9 with fail
              go_quiet (fail)
              go_wp2_with fail
              go_roundw
              case rel => exact ⟨k + 1, by omega, by go_num, Lib.hid (below_drewN HBK.out _)⟩
              case measure => simp [intOf]; omega
            | obj b =>
              rw [hqq] at ku0 ku1 hqk
              replace ku0 : wr.cell? ⟨vb, k * 2, none⟩ = some (.bool false) := ku0
              replace ku1 : wr.cell? ⟨vb, k * 2 + 1, none⟩ = some (.int .i64 (b : Int)) := ku1
              have htw := HA.out.two i k a b HQI.out hqk
              clear hqq hqk
              generalize regs.getD i 0 = x at *
              generalize regs.getD k 0 = y at *
              by_cases hab : a = b
              · have hxy : x = y := htw.2 hab
                have B1 : ((x : Int) == (y : Int)) = true := by rw [beq_iff_eq]; omega
                have B2 : ((a : Int) == (b : Int)) = true := by rw [beq_iff_eq]; omega
                clear hab hxy htw
                go_upto_region 9 with fail
                go_quiet (fail)
                go_wp2_with fail
                go_roundw
                case rel => exact ⟨k + 1, by omega, by go_num, Lib.hid (below_drewN HBK.out _)⟩
                case measure => simp [intOf]; omega
              · have hxy : ¬ x = y := fun he => hab (htw.1 he)
                have B1 : ((x : Int) == (y : Int)) = false := by rw [beq_eq_false_iff_ne]; omega
                have B2 : ((a : Int) == (b : Int)) = false := by rw [beq_eq_false_iff_ne]; omega
                clear hab hxy htw
                go_upto_region 9 with fail
                go_quiet (fail)
                go_wp2_with fail
                go_roundw
                case rel => exact ⟨k + 1, by omega, by go_num, Lib.hid (below_drewN HBK.out _)⟩
                case measure => simp [intOf]; omega
          · have g2 : decide ((k : Int) < (i : Int)) = false := decide_eq_false (by omega)
            have g2' : decide (k < i) = false := decide_eq_false hki
            go_wp2_with fail
            go_roundw
            case rel => exact ⟨i + 1, by omega, by go_num, HBK⟩
            case measure => simp [intOf]; omega
    · have g1 : decide ((i : Int) < 8) = false := decide_eq_false (by omega)
      go_wp2_with fail
      go_ret
      exact ⟨rfl, HB.out⟩
theorem alloc_cy (m : Nat) (x : SS) (kd n : Int) (xs : List Nat) : (x.alloc m kd n xs).2.2.cy ≤ x.cy + 2 := by
  have hput : ∀ (z : SS) (r : Int × Int × GS), (z.put r).2.2.cy = z.cy := fun z r => by unfold SS.put; split <;> rfl
  have hfin : ∀ z : SS, z.finish.cy ≤ z.cy + 1 := fun z => by unfold SS.finish; dsimp only; split <;> omega
  have h2 : (x.second m kd n).cy ≤ x.cy + 1 := hfin _
  have h3 : ((x.second m kd n).third m kd n xs).cy ≤ (x.second m kd n).cy + 1 := hfin _
  unfold SS.alloc
  split
  · split
    · rw [hput]; omega
    · rw [hput]; omega
  · rw [hput]; omega
theorem pick_cy (x : SS) (xs : List Nat) : (x.pick xs).cy ≤ x.cy + 1 := by
  unfold SS.pick SS.step
  split
  · exact Nat.le_succ _
  · dsimp only; split <;> omega
def TwinK (nk tb vb : Nat) (T : List (List TV)) (Q : List TV) (w : World) (U : Nat → Prop) : Prop := ∃ G vk vf, TwinMem w U tb vb nk T Q G vk vf
/-- With the step at hand. -/
def Box4 (pb : Nat) (st : Stp4) (w : World) (U : Nat → Prop) : Prop := U pb ∧ w.heap[pb]? = some (.cells #[.int .i64 st.k, .int .i64 st.a, .int .i64 st.b, .int .i64 st.n, .int .i64 st.m, .string st.t] 85 (0, 0))
def RK (pb : Nat) (st : Stp4) (nk tb vb : Nat) (T : List (List TV)) (Q : List TV) (w : World) (U : Nat → Prop) : Prop := TwinK nk tb vb T Q w U ∧ Box4 pb st w U
/-- With a row that is being made. -/
def RR (pb : Nat) (st : Stp4) (nk tb vb : Nat) (T : List (List TV)) (Q : List TV) (gr : Nat) (l : List TV) (w : World) (U : Nat → Prop) : Prop := (∃ G vk vf, TwinMem w U tb vb nk T Q G vk vf ∧ gr ∉ G ∧ gr ≠ vb) ∧ Box4 pb st w U ∧ U gr ∧ ValRow w gr l
theorem Box4.keep {pb : Nat} {st : Stp4} {w w' : World} {U : Nat → Prop} (h : Box4 pb st w U) (hk : ∀ b, b < w.heap.size → U b → w'.heap[b]? = w.heap[b]?) : Box4 pb st w' U := ⟨h.1, (hk pb (lt_of_heap h.2) h.1).trans h.2⟩
theorem k_keeps (nk tb vb : Nat) (T : List (List TV)) (Q : List TV) : Keeps (TwinK nk tb vb T Q) := fun _ _ _ ⟨G, vk, vf, h⟩ _ hk => ⟨G, vk, vf, h.keep hk⟩
theorem rk_keeps (pb : Nat) (st : Stp4) (nk tb vb : Nat) (T : List (List TV)) (Q : List TV) : Keeps (RK pb st nk tb vb T Q) := fun _ _ _ h hz hk => ⟨k_keeps _ _ _ _ _ _ _ _ h.1 hz hk, h.2.keep hk⟩
theorem rr_keeps (pb : Nat) (st : Stp4) (nk tb vb : Nat) (T : List (List TV)) (Q : List TV) (gr : Nat) (l : List TV) : Keeps (RR pb st nk tb vb T Q gr l) := fun _ _ _ ⟨⟨G, vk, vf, h, h2, h3⟩, h4, h5, h6⟩ _ hk => ⟨⟨G, vk, vf, h.keep hk, h2, h3⟩, h4.keep hk, h5, (hk gr h6.lt h5).trans h6⟩
theorem MidX.weak {R R' : World → (Nat → Prop) → Prop} {w wr : World} {p g q m rb : Nat} {x : SS} {regs : List Nat} {T : Nat → Prop} (h : MidX R w p g q m rb x regs wr T) (hR : R wr T → R' wr T) : MidX R' w p g q m rb x regs wr T := ⟨h.store, hR h.side, h.row, h.len, h.small, h.below, h.new, h.rbl, h.apart⟩
/-- A block more beside all. -/
theorem MidX.box {R R' : World → (Nat → Prop) → Prop} (hk : Keeps R) {w wr w' : World} {p g q m rb : Nat} {x : SS} {regs : List Nat} {T : Nat → Prop} (h : MidX R w p g q m rb x regs wr T) (hb : Below wr.heap.size wr w') (hr : R w' T → R' w' (fun b => (T b ∨ wr.heap.size ≤ b) ∧ b < w'.heap.size)) : ∃ T', MidX R' w p g q m rb x regs w' T' :=
  h.goR (Turned.of_below hb) (hr (hk _ _ _ h.side hb.size fun b hl _ => hb.block b hl))
section
variable {w wr : World} {p g q m rb pb nk tb vb : Nat} {st : Stp4} {x : SS} {regs : List Nat} {T : List (List TV)} {Q : List TV} {U : Nat → Prop}
theorem MidX.vals (h : MidX (RK pb st nk tb vb T Q) w p g q m rb x regs wr U) : ValRow wr vb Q ∧ vb < wr.heap.size ∧ vb ≠ rb := by
  obtain ⟨⟨G, vk, vf, ht⟩, _⟩ := h.side
  exact ⟨ht.vals, ht.vals.lt, (h.apart vb ht.uv).2.1⟩
theorem MidX.boxed (h : MidX (RK pb st nk tb vb T Q) w p g q m rb x regs wr U) : wr.cell? ⟨pb, 0, none⟩ = some (.int .i64 st.k) ∧ wr.cell? ⟨pb, 1, none⟩ = some (.int .i64 st.a) ∧ wr.cell? ⟨pb, 2, none⟩ = some (.int .i64 st.b) ∧ wr.cell? ⟨pb, 3, none⟩ = some (.int .i64 st.n) ∧ wr.cell? ⟨pb, 4, none⟩ = some (.int .i64 st.m) ∧ pb < wr.heap.size := by
  have hb := h.side.2.2
  refine ⟨?_, ?_, ?_, ?_, ?_, lt_of_heap hb⟩ <;> (rw [Lib.cell_of_heap hb]; rfl)
theorem MidX.pokeV (h : MidX (RK pb st nk tb vb T Q) w p g q m rb x regs wr U) (k : Nat) (v : TV) : ∃ U', MidX (RK pb st nk tb vb T (Q.set k v)) w p g q m rb x regs (setTwo wr vb k v) U' := by
  obtain ⟨⟨G, vk, vf, ht⟩, hb⟩ := h.side
  have hne : pb ≠ vb := fun he => blocks_ne hb.2 ht.vals (by decide) he
  refine h.goR (setTwo_turned wr vb k v ht.uv) ⟨⟨G, vk, vf, (ht.pokeVals k v).mono fun b hU hl => ⟨.inl hU, hl⟩⟩, ⟨.inl hb.1, ?_⟩, ?_⟩
  · rw [setTwo_size]; exact lt_of_heap hb.2
  · exact (setTwo_other wr vb k v pb hne).trans hb.2
theorem MidX.pokeR (h : MidX (RK pb st nk tb vb T Q) w p g q m rb x regs wr U) {j : Nat} {vs : List TV} (hj : T[j]? = some vs) (k : Nat) (v : TV) {gj : Nat} {G : List Nat} {vk vf : Value} (ht : TwinMem wr U tb vb nk T Q G vk vf) (hg : G[j]? = some gj) : ∃ U', MidX (RK pb st nk tb vb (T.set j (vs.set k v)) Q) w p g q m rb x regs (setTwo wr gj k v) U' := by
  have hb := h.side.2
  obtain ⟨hu, hr⟩ := ht.each j gj vs hg hj
  have hne : pb ≠ gj := fun he => blocks_ne hb.2 hr (by decide) he
  refine h.goR (setTwo_turned wr gj k v hu) ⟨⟨G, vk, vf, (ht.pokeRow hg hj k v).mono fun b hU hl => ⟨.inl hU, hl⟩⟩, ⟨.inl hb.1, ?_⟩, ?_⟩
  · rw [setTwo_size]; exact lt_of_heap hb.2
  · exact (setTwo_other wr gj k v pb hne).trans hb.2
end
theorem infoVal : (Tryd.prog.info? 83).map (fun i => (i.zero, i.size, i.bytes)) = some (some (.agg #[.bool false, .int .i64 0]), 2, 16) := by kernel_rfl
theorem made_vals (n : Nat) : madeCells #[.bool false, .int .i64 0] (n * 2) = (tvsCells (halfRow n 0)).toArray := by
  have hl : (tvsCells (halfRow n 0)).length = n * 2 := by rw [tvs_len]; simp [halfRow]
  refine Array.ext (by rw [size_madeCells]; simp [hl]) fun i h1 h2 => ?_
  rw [size_madeCells] at h1
  have hx : (halfRow n 0)[i / 2]? = some (.obj 0) := by
    unfold halfRow
    rw [List.replicate_zero, List.nil_append, List.getElem?_replicate, if_pos (by omega)]
  obtain ⟨e0, e1⟩ := tvs_at hx
  replace e0 : (tvsCells (halfRow n 0))[i / 2 * 2]? = some (.bool false) := e0
  replace e1 : (tvsCells (halfRow n 0))[i / 2 * 2 + 1]? = some (.int .i64 0) := e1
  have hm : (madeCells #[.bool false, .int .i64 0] (n * 2))[i]'(by rw [size_madeCells]; exact h1) = #[Value.bool false, Value.int .i64 0][i % 2]! := by
    simp [madeCells]
  rw [hm]
  rcases Nat.mod_two_eq_zero_or_one i with h0 | h0
  · rw [h0]
    have hi : i / 2 * 2 = i := by omega
    rw [hi] at e0
    have : (tvsCells (halfRow n 0)).toArray[i] = .bool false := by
      have := List.getElem?_eq_some_iff.1 e0
      obtain ⟨_, h3⟩ := this
      simpa using h3
    rw [this]; rfl
  · rw [h0]
    have hi : i / 2 * 2 + 1 = i := by omega
    rw [hi] at e1
    have : (tvsCells (halfRow n 0)).toArray[i] = .int .i64 0 := by
      have := List.getElem?_eq_some_iff.1 e1
      obtain ⟨_, h3⟩ := this
      simpa using h3
    rw [this]; rfl
theorem make_vals (n : Nat) (hn : n ≤ 1000000) (W : World) : (Instr.makeSlice 81 (.int .i64 (n : Int)) (.int .i64 (n : Int))).run Tryd.prog W = .ok (.slice (some ⟨W.heap.size, 0, none⟩) n n) (W.alloc (.cells (tvsCells (halfRow n 0)).toArray 83)) := by
  obtain ⟨i0, hi0, hz0, hz1, hz2⟩ := info_parts infoVal
  have h := run_make_rowN (P := Tryd.prog) 81 83 i0 _ Tryd.underlying81 hi0 hz0 .i64 .i64 n n (Nat.le_refl _) (by rw [hz2]; omega) (by omega) W
  rw [hz1] at h
  rw [← made_vals]
  exact h
section
variable {w wr : World} {p g q m rb pb nk tb vb gr : Nat} {st : Stp4} {x : SS} {regs : List Nat} {T : List (List TV)} {Q : List TV} {U : Nat → Prop}
theorem setOne_turned (w : World) (g i : Nat) (v : Value) {V : Nat → Prop} (hV : V g) : Turned V w (w.setCell ⟨g, i, none⟩ v) := (Turned.refl V w).setCell ⟨g, i, none⟩ _ hV
theorem setOne_size (w : World) (g i : Nat) (v : Value) : (w.setCell ⟨g, i, none⟩ v).heap.size = w.heap.size := by simp [World.setCell]
/-- The values' row, while it is being made. -/
theorem MidX.markV {k n : Nat} (h : MidX (TwinK nk tb vb T (halfRow n k)) w p g q m rb x regs wr U) (hk : k < n) : ∃ U', MidX (TwinK nk tb vb T (halfRow n (k + 1))) w p g q m rb x regs (wr.setCell ⟨vb, k * 2, none⟩ (.bool true)) U' := by
  obtain ⟨G, vk, vf, ht⟩ := h.side
  have ho : ∀ b, b ≠ vb → (wr.setCell ⟨vb, k * 2, none⟩ (.bool true)).heap[b]? = wr.heap[b]? := fun b hb => heap_setCell_other _ ⟨vb, k * 2, none⟩ b _ hb
  have hv := ht.vals.mark (half_at hk)
  rw [half_set hk] at hv
  have ht2 : TwinMem (wr.setCell ⟨vb, k * 2, none⟩ (.bool true)) U tb vb nk T (halfRow n (k + 1)) G vk vf :=
    ⟨ht.ut, ht.uv, (ho tb (ht.tval ht.vals)).trans ht.head, ht.kinds.keep1 fun g hg => ho g fun he => ht.kval ht.vals (he ▸ hg), ht.rows.keep1 fun g hg => ho g fun he => ht.fval ht.vals (he ▸ hg), ht.glen, hv, fun i g l h1 h2 => ⟨(ht.each i g l h1 h2).1, (ho g fun he => ht.nvb (he ▸ List.mem_of_getElem? h1)).trans (ht.each i g l h1 h2).2⟩, ht.nd, ht.nvb⟩
  exact h.goR (setOne_turned wr vb _ _ ht.uv) ⟨G, vk, vf, ht2.mono fun b hU hl => ⟨.inl hU, hl⟩⟩
theorem MidX.halfV {k n : Nat} (h : MidX (TwinK nk tb vb T (halfRow n k)) w p g q m rb x regs wr U) (hk : k < n) : wr.cell? ⟨vb, k * 2, none⟩ = some (.bool false) ∧ wr.frozen? ⟨vb, k * 2, none⟩ = false := by
  obtain ⟨G, vk, vf, ht⟩ := h.side
  exact ⟨(ht.vals.cells (half_at hk)).1, ht.vals.frozen _⟩
/-- An object's row, while it is being made. -/
theorem MidX.markR {k n : Nat} (h : MidX (RR pb st nk tb vb T Q gr (halfRow n k)) w p g q m rb x regs wr U) (hk : k < n) : ∃ U', MidX (RR pb st nk tb vb T Q gr (halfRow n (k + 1))) w p g q m rb x regs (wr.setCell ⟨gr, k * 2, none⟩ (.bool true)) U' := by
  obtain ⟨⟨G, vk, vf, ht, hgG, hgv⟩, hb, hu, hr⟩ := h.side
  have ho : ∀ b, b ≠ gr → (wr.setCell ⟨gr, k * 2, none⟩ (.bool true)).heap[b]? = wr.heap[b]? := fun b hb => heap_setCell_other _ ⟨gr, k * 2, none⟩ b _ hb
  have hv := hr.mark (half_at hk)
  rw [half_set hk] at hv
  have ht2 : TwinMem (wr.setCell ⟨gr, k * 2, none⟩ (.bool true)) U tb vb nk T Q G vk vf :=
    ⟨ht.ut, ht.uv, (ho tb (ht.tval hr)).trans ht.head, ht.kinds.keep1 fun g hg => ho g fun he => ht.kval hr (he ▸ hg), ht.rows.keep1 fun g hg => ho g fun he => ht.fval hr (he ▸ hg), ht.glen, (ho vb fun he => hgv he.symm).trans ht.vals, fun i g l h1 h2 => ⟨(ht.each i g l h1 h2).1, (ho g fun he => hgG (he ▸ List.mem_of_getElem? h1)).trans (ht.each i g l h1 h2).2⟩, ht.nd, ht.nvb⟩
  have hne : pb ≠ gr := fun he => blocks_ne hb.2 hr (by decide) he
  have hz := setOne_size wr gr (k * 2) (.bool true)
  exact h.goR (setOne_turned wr gr _ _ hu) ⟨⟨G, vk, vf, ht2.mono fun b hU hl => ⟨.inl hU, hl⟩, hgG, hgv⟩, ⟨⟨.inl hb.1, by rw [hz]; exact lt_of_heap hb.2⟩, (ho pb hne).trans hb.2⟩, ⟨.inl hu, by rw [hz]; exact hr.lt⟩, hv⟩
theorem MidX.halfR {k n : Nat} (h : MidX (RR pb st nk tb vb T Q gr (halfRow n k)) w p g q m rb x regs wr U) (hk : k < n) : wr.cell? ⟨gr, k * 2, none⟩ = some (.bool false) ∧ wr.frozen? ⟨gr, k * 2, none⟩ = false := by
  obtain ⟨_, _, _, hr⟩ := h.side
  exact ⟨(hr.cells (half_at hk)).1, hr.frozen _⟩
/-- A row is made. -/
theorem MidX.newR {n : Nat} (h : MidX (RK pb st nk tb vb T Q) w p g q m rb x regs wr U) : ∃ U', MidX (RR pb st nk tb vb T Q wr.heap.size (halfRow n 0)) w p g q m rb x regs (wr.alloc (.cells (tvsCells (halfRow n 0)).toArray 83)) U' := by
  refine h.box (rk_keeps _ _ _ _ _ _ _) (below_one _) fun hr => ?_
  obtain ⟨⟨G, vk, vf, ht⟩, hb⟩ := hr
  obtain ⟨⟨G0, vk0, vf0, ht0⟩, hb0⟩ := h.side
  have hzs : (wr.alloc (.cells (tvsCells (halfRow n 0)).toArray 83)).heap.size = wr.heap.size + 1 := by simp
  refine ⟨⟨G0, vk0, vf0, ?_, fun hx => ?_, fun hx => ?_⟩, ⟨⟨.inl hb.1, lt_of_heap hb.2⟩, hb.2⟩, ⟨.inr (Nat.le_refl _), by omega⟩, heap_alloc_new wr _⟩
  · exact (ht0.keep fun b hl _ => (below_one _).block b hl).mono fun b hU hl => ⟨.inl hU, hl⟩
  · obtain ⟨i, hi⟩ := mem_at hx
    have hl : i < T.length := by rw [← ht0.glen]; exact at_lt hi
    have := (ht0.each i _ _ hi (List.getElem?_eq_getElem hl)).2.lt
    omega
  · have := ht0.vals.lt
    omega
end
section
variable {w wr : World} {p g q m rb pb nk tb vb gr : Nat} {x : SS} {regs : List Nat} {T : List (List TV)} {Q : List TV} {U : Nat → Prop}
theorem MidX.boxS (st : Stp4) (h : MidX (TwinK nk tb vb T Q) w p g q m rb x regs wr U) : ∃ U', MidX (RK wr.heap.size st nk tb vb T Q) w p g q m rb x regs (wr.alloc (.cells #[.int .i64 st.k, .int .i64 st.a, .int .i64 st.b, .int .i64 st.n, .int .i64 st.m, .string st.t] 85)) U' := by
  refine h.box (k_keeps _ _ _ _ _) (below_one _) fun ⟨G, vk, vf, ht⟩ => ⟨⟨G, vk, vf, ht.mono fun b hU hl => ⟨.inl hU, hl⟩⟩, ⟨.inr (Nat.le_refl _), by simp⟩, heap_alloc_new wr _⟩
/-- In the midst of the law StoreSame. -/
def MidW (w1 : World) (p g q m rb tb vb i : Nat) (wr : World) : Prop := ∃ (x : SS) (regs : List Nat) (T : List (List TV)) (Q : List TV) (f : Nat → Nat) (U : Nat → Prop), MidX (TwinK T.length tb vb T Q) w1 p g q m rb x regs wr U ∧ Same regs x.s T Q f ∧ Q.length = 8 ∧ T.length ≤ i ∧ x.cy ≤ 2 * i
theorem six4_of (a : Int) : ∃ r : Nat, r < 6 ∧ wrap64 ((IntKind.u64.wrap a).tmod 6) = (r : Int) := by
  have h1 : 0 ≤ IntKind.u64.wrap a := by rw [IntKind.wrap_u64]; omega
  refine ⟨(IntKind.u64.wrap a % 6).toNat, by omega, ?_⟩
  rw [Int.tmod_eq_emod_of_nonneg h1]
  unfold wrap64
  omega
end
section
variable {w wr w4 : World} {p g q m rb pb nk tb vb gr : Nat} {x : SS} {regs : List Nat} {T : List (List TV)} {Q : List TV} {U : Nat → Prop} {G : List Nat} {vk vf v1 : Value} {ob : Obj} {st : Stp4} {l : List TV}
theorem infoRow : (Tryd.prog.info? 81).map (fun i => (i.zero, i.size, i.bytes)) = some (some (.slice none 0 0), 1, 24) := by kernel_rfl
theorem MidX.pushK (h : MidX (RK pb st nk tb vb T Q) w p g q m rb x regs wr U) (ht : TwinMem wr U tb vb nk T Q G vk vf) (ho : w4.ownsRow 0 3 1 v1 (nk + 1) (kindVals nk ++ [.int .i64 6])) (hg : (wr.alloc ob).grownBy w4 vk.ownBlock) (hat : v1.ownBlock = vk.ownBlock ∨ v1.ownBlock = some (wr.alloc ob).heap.size) :
    w4.heap[tb]? = some (.cells #[vk, vf] 80 (0, 0)) ∧ ∃ U', MidX (RK pb st (nk + 1) tb vb T Q) w p g q m rb x regs (w4.setCell ⟨tb, 0, none⟩ v1) U' := by
  obtain ⟨h1, h2, h3, h4⟩ := ht.pushKind ho hg hat
  have hb := h.side.2
  have hpl := lt_of_heap hb.2
  have hp1 : vk.ownBlock ≠ some pb := fun hx => by
    obtain ⟨cs, hc⟩ := row_block ht.kinds hx
    exact blocks_ne hc hb.2 (by decide) rfl
  have hp2 : pb ≠ tb := fun he => blocks_ne hb.2 ht.head (by decide) he
  refine ⟨h1, h.goR h3 ⟨⟨G, v1, vf, h2.mono fun b hU hl => ⟨hU, hl⟩⟩, ⟨.inl hb.1, ?_⟩, (h4 pb hpl hp1 hp2).trans hb.2⟩⟩
  exact Nat.lt_of_lt_of_le hpl h3.size
theorem MidX.pushR (h : MidX (RR pb st nk tb vb T Q gr l) w p g q m rb x regs wr U) (ht : TwinMem wr U tb vb nk T Q G vk vf) (hnew : gr ∉ G) (hvb : gr ≠ vb) (ho : w4.ownsRow 0 81 1 v1 (T.length + 1) (rowVals G T ++ [.slice (some ⟨gr, 0, none⟩) l.length l.length])) (hg : (wr.alloc ob).grownBy w4 vf.ownBlock) (hat : v1.ownBlock = vf.ownBlock ∨ v1.ownBlock = some (wr.alloc ob).heap.size) :
    w4.heap[tb]? = some (.cells #[vk, vf] 80 (0, 0)) ∧ ∃ U', MidX (TwinK nk tb vb (T ++ [l]) Q) w p g q m rb x regs (w4.setCell ⟨tb, 1, none⟩ v1) U' := by
  obtain ⟨_, hb, hu, hr⟩ := h.side
  obtain ⟨h1, h2, h3, h4⟩ := ht.pushRow hu hr hnew hvb ho hg hat
  exact ⟨h1, h.goR h3 ⟨G ++ [gr], vk, v1, h2.mono fun b hU hl => ⟨hU, hl⟩⟩⟩
theorem row_form {w1 : World} {e : TypeId} {size n : Nat} {v : Value} {xs : List Value} (ho : w1.ownsRow 0 e size v (n + 1) xs) (hn : v ≠ .slice none 0 0) : ∃ f1 k1, v = .slice (some ⟨f1, 0, none⟩) (n + 1) k1 := by
  rcases ho.2 with ⟨h, _⟩ | ⟨g', k', _, h, _⟩
  · exact (hn h).elim
  · exact ⟨g', k', h⟩
/-- What the walk reads of the objects without end. -/
theorem MidX.twin (h : MidX (RK pb st nk tb vb T Q) w p g q m rb x regs wr U) : ∃ G A c vf, TwinMem wr U tb vb nk T Q G (.slice A nk c) vf ∧ wr.cell? ⟨tb, 0, none⟩ = some (.slice A nk c) ∧ tb < wr.heap.size := by
  obtain ⟨⟨G, vk, vf, ht⟩, _⟩ := h.side
  obtain ⟨A, c, rfl, _⟩ := ht.kinds.view
  exact ⟨G, A, c, vf, ht, by rw [Lib.cell_of_heap ht.head]; rfl, lt_of_heap ht.head⟩
theorem MidX.twinR (h : MidX (RR pb st nk tb vb T Q gr l) w p g q m rb x regs wr U) : ∃ G A c vk, TwinMem wr U tb vb nk T Q G vk (.slice A T.length c) ∧ gr ∉ G ∧ gr ≠ vb ∧ wr.cell? ⟨tb, 1, none⟩ = some (.slice A T.length c) ∧ tb < wr.heap.size := by
  obtain ⟨⟨G, vk, vf, ht, h1, h2⟩, _⟩ := h.side
  obtain ⟨A, c, rfl, _⟩ := ht.rows.view
  exact ⟨G, A, c, vk, ht, h1, h2, by rw [Lib.cell_of_heap ht.head]; rfl, lt_of_heap ht.head⟩
end
section
variable {w wr : World} {p g q m rb pb nk tb vb : Nat} {x : SS} {regs : List Nat} {T : List (List TV)} {Q : List TV} {U : Nat → Prop} {st : Stp4}
set_option maxHeartbeats 400000 in
theorem wordWrap_any (n : Int) (w : World) : Calls Tryd.prog 61 #[.int .i64 n] w fun e w' => e = .returned (.int .i64 (W63 n)) ∧ w = w' := by
  go_enter Tryd.func61, Tryd.ntmps61
  go_wp2
  go_ret
  exact ⟨ret_int (w63_shl n), rfl⟩
theorem odd_of (n : Int) : ∃ y : Nat, y < 18446744073709551616 ∧ WOf n = (y : Int) ∧ y % 2 = 1 ∧ WNum (y : Int) = W63 n := by
  have h0 := wof_lo n
  have h1 := wof_hi n
  have h2 := wis_of n
  have h3 := wnum_of n
  refine ⟨(WOf n).toNat, by omega, by omega, ?_, ?_⟩
  · unfold WIs at h2
    have := of_decide_eq_true h2
    omega
  · rw [show (((WOf n).toNat : Nat) : Int) = WOf n by omega]
    exact h3
theorem MidX.valCells (h : MidX (RK pb st nk tb vb T Q) w p g q m rb x regs wr U) {k : Nat} {v : TV} (hk : Q[k]? = some v) : wr.cell? ⟨vb, k * 2, none⟩ = some (.bool v.isNum) ∧ wr.cell? ⟨vb, k * 2 + 1, none⟩ = some (.int .i64 v.val) ∧ wr.frozen? ⟨vb, k * 2, none⟩ = false ∧ wr.frozen? ⟨vb, k * 2 + 1, none⟩ = false := by
  obtain ⟨hv, _, _⟩ := h.vals
  exact ⟨(hv.cells hk).1, (hv.cells hk).2, hv.frozen _, hv.frozen _⟩
theorem MidX.boxM (h : MidX (RK pb st nk tb vb T Q) w p g q m rb x regs wr U) : wr.cell? ⟨pb, 4, none⟩ = some (.int .i64 st.m) := h.boxed.2.2.2.2.1
/-- The objects' set, beside all. -/
def TSet (pb : Nat) (st : Stp4) (nk tb vb : Nat) (T : List (List TV)) (Q : List TV) (w : World) (p g q m rb : Nat) (x : SS) (regs : List Nat) (e : Ending) (w' : World) : Prop := e = .returned (.bool true) ∧ ∃ U, MidX (RK pb st nk tb vb T Q) w p g q m rb x regs w' U
theorem mx_set_num (h : MidX (RK pb st nk tb vb T Q) w p g q m rb x regs wr U) (n i : Int) (u : TV) :
    Calls Tryd.prog 56 #[.pointer (some ⟨tb, 0, none⟩), .agg #[.bool true, .int .i64 n], .int .i64 i, .agg #[.bool u.isNum, .int .i64 u.val], .int .i64 7] wr (TSet pb st nk tb vb T Q w p g q m rb x regs) :=
  (tset_num wr tb n i u).mono fun _ _ ⟨he, hb⟩ => ⟨he, U, h.next (rk_keeps _ _ _ _ _ _ _) hb⟩
theorem mx_set_out (h : MidX (RK pb st nk tb vb T Q) w p g q m rb x regs wr U) {j : Nat} {vs : List TV} (hj : T[j]? = some vs) (i : Int) (hi : i < 0 ∨ (vs.length : Int) ≤ i) (hT : T.length ≤ 1000000) (u : TV) :
    Calls Tryd.prog 56 #[.pointer (some ⟨tb, 0, none⟩), .agg #[.bool false, .int .i64 (j : Int)], .int .i64 i, .agg #[.bool u.isNum, .int .i64 u.val], .int .i64 2] wr (TSet pb st nk tb vb T Q w p g q m rb x regs) := by
  obtain ⟨⟨G, vk, vf, ht⟩, _⟩ := h.side
  exact (tset_out ht hj i hi hT u).mono fun _ _ ⟨he, hb⟩ => ⟨he, U, h.next (rk_keeps _ _ _ _ _ _ _) hb⟩
theorem mx_set_in (h : MidX (RK pb st nk tb vb T Q) w p g q m rb x regs wr U) {j k : Nat} {vs : List TV} (hj : T[j]? = some vs) (hk : k < vs.length) (hT : T.length ≤ 1000000) (u : TV) :
    Calls Tryd.prog 56 #[.pointer (some ⟨tb, 0, none⟩), .agg #[.bool false, .int .i64 (j : Int)], .int .i64 (k : Int), .agg #[.bool u.isNum, .int .i64 u.val], .int .i64 0] wr (TSet pb st nk tb vb (T.set j (vs.set k u)) Q w p g q m rb x regs) := by
  obtain ⟨⟨G, vk, vf, ht⟩, _⟩ := h.side
  obtain ⟨gj, hg, _, _⟩ := ht.row hj
  refine (tset_in ht hg hj hk hT u).mono ?_
  rintro e w' ⟨rfl, w2, hb, rfl⟩
  have hm := h.next (rk_keeps _ _ _ _ _ _ _) hb
  have ht2 := ht.keep fun b hl _ => hb.block b hl
  exact ⟨rfl, hm.pokeR hj k u ht2 hg⟩
def TGet (v : Value) (b : Bool) (w : World) (e : Ending) (w' : World) : Prop := e = .returned (.tuple #[v, .bool b]) ∧ Below w.heap.size w w'
theorem mx_get_out (h : MidX (RK pb st nk tb vb T Q) w p g q m rb x regs wr U) {j : Nat} {vs : List TV} (hj : T[j]? = some vs) (i : Int) (hi : i < 0 ∨ (vs.length : Int) ≤ i) (hT : T.length ≤ 1000000) :
    Calls Tryd.prog 58 #[.pointer (some ⟨tb, 0, none⟩), .agg #[.bool false, .int .i64 (j : Int)], .int .i64 i] wr (TGet (.agg #[.bool false, .int .i64 0]) false wr) := by
  obtain ⟨⟨G, vk, vf, ht⟩, _⟩ := h.side
  exact tget_out ht hj i hi hT
theorem mx_get_in (h : MidX (RK pb st nk tb vb T Q) w p g q m rb x regs wr U) {j k : Nat} {vs : List TV} {u : TV} (hj : T[j]? = some vs) (hk : vs[k]? = some u) (hT : T.length ≤ 1000000) :
    Calls Tryd.prog 58 #[.pointer (some ⟨tb, 0, none⟩), .agg #[.bool false, .int .i64 (j : Int)], .int .i64 (k : Int)] wr (TGet (.agg #[.bool u.isNum, .int .i64 u.val]) true wr) := by
  obtain ⟨⟨G, vk, vf, ht⟩, _⟩ := h.side
  exact tget_in ht hj hk hT
end
section
variable {w : World} {p g q m rb pb tb vb : Nat} {x : SS} {regs : List Nat} {T : List (List TV)} {Q : List TV} {f : Nat → Nat} {U : Nat → Prop} {st : Stp4} {ra rc : Nat} {va vc : TV}
theorem set_both (h : Same regs x.s T Q f) (hi : GInv m x.s) (hT : T.length ≤ 1000000) (ha : Q[ra]? = some va) (hc : Q[rc]? = some vc) (hxa : regs.getD ra 0 < 18446744073709551616) (hxc : regs.getD rc 0 < 18446744073709551616) :
    ∃ (ev : Int) (y : SS) (T2 : List (List TV)), T2.length = T.length ∧ y.cy = x.cy ∧ Same regs y.s T2 Q f ∧
      (∀ W, MidX (RK pb st T.length tb vb T Q) w p g q m rb x regs W U → Calls Tryd.prog 55 #[.pointer (some ⟨p, 0, none⟩), .int .u64 (regs.getD ra 0 : Nat), .int .i64 st.m, .int .u64 (regs.getD rc 0 : Nat)] W (fun e w' => e = .returned (.int .i64 ev) ∧ MidX (RK pb st T.length tb vb T Q) w p g q m rb y regs w' U)) ∧
      (∀ W, MidX (RK pb st T.length tb vb T Q) w p g q m rb y regs W U → Calls Tryd.prog 56 #[.pointer (some ⟨tb, 0, none⟩), .agg #[.bool va.isNum, .int .i64 va.val], .int .i64 st.m, .agg #[.bool vc.isNum, .int .i64 vc.val], .int .i64 ev] W (TSet pb st T.length tb vb T2 Q w p g q m rb y regs)) := by
  have hw := h.write hi st.m ha hc
  have hs := fun W (hW : MidX (RK pb st T.length tb vb T Q) w p g q m rb x regs W U) => sx_Set (rk_keeps _ _ _ _ _ _ _) hW (regs.getD ra 0) hxa st.m (regs.getD rc 0) hxc
  cases va with
  | num n =>
    have hw : x.s.write (addrW (regs.getD ra 0) : Nat) st.m (regs.getD rc 0) = (7, x.s) := hw
    rw [hw] at hs
    exact ⟨7, x, T, rfl, rfl, h, hs, fun W hW => mx_set_num hW n st.m vc⟩
  | obj j =>
    obtain ⟨vs, hj, hout, hin⟩ := hw
    by_cases hr : st.m < 0 ∨ (vs.length : Int) ≤ st.m
    · rw [hout hr] at hs
      exact ⟨2, x, T, rfl, rfl, h, hs, fun W hW => mx_set_out hW hj st.m hr hT vc⟩
    · obtain ⟨k, hk⟩ := Int.eq_ofNat_of_zero_le (show 0 ≤ st.m by omega)
      obtain ⟨t, ht, hst⟩ := hin k hk (by omega)
      rw [ht] at hs
      refine ⟨0, ⟨t, x.cy⟩, T.set j (vs.set k vc), by rw [List.length_set], rfl, hst, hs, fun W hW => ?_⟩
      have := mx_set_in hW hj (k := k) (by omega) hT vc
      rw [hk]
      exact this
theorem get_both (h : Same regs x.s T Q f) (hi : GInv m x.s) (hT : T.length ≤ 1000000) (hc : Q[rc]? = some vc) (hxc : regs.getD rc 0 < 18446744073709551616) (hsm : ∀ i, (hGet x.s.L (addrW (regs.getD rc 0) : Nat) i).1 < 18446744073709551616) (ra : Nat) :
    ∃ (ev : Int) (wv : Nat) (ok gb : Bool) (gv : Int),
      (∀ W, MidX (RK pb st T.length tb vb T Q) w p g q m rb x regs W U → Calls Tryd.prog 57 #[.pointer (some ⟨p, 0, none⟩), .int .u64 (regs.getD rc 0 : Nat), .int .i64 st.m] W (fun e w' => e = .returned (.tuple #[.int .u64 (wv : Int), .int .i64 ev]) ∧ MidX (RK pb st T.length tb vb T Q) w p g q m rb x regs w' U ∧ Below W.heap.size W w')) ∧
      (∀ W, MidX (RK pb st T.length tb vb T Q) w p g q m rb x regs W U → Calls Tryd.prog 58 #[.pointer (some ⟨tb, 0, none⟩), .agg #[.bool vc.isNum, .int .i64 vc.val], .int .i64 st.m] W (TGet (.agg #[.bool gb, .int .i64 gv]) ok W)) ∧
      ((ok = false ∧ ev ≠ 0) ∨ (ok = true ∧ ev = 0 ∧ ∃ u : TV, gb = u.isNum ∧ gv = u.val ∧ wv < 18446744073709551616 ∧ Same (regs.set ra wv) x.s T (Q.set ra u) f)) := by
  have hl := h.load hi ra rc st.m hc
  have hs := fun W (hW : MidX (RK pb st T.length tb vb T Q) w p g q m rb x regs W U) => sx_Get (rk_keeps _ _ _ _ _ _ _) hW (regs.getD rc 0) hxc st.m
  have hsm := hsm st.m
  cases vc with
  | num n =>
    have hl : hGet x.s.L (addrW (regs.getD rc 0) : Nat) st.m = (0, 7) := hl
    rw [hl] at hs
    exact ⟨7, 0, false, false, 0, hs, fun W hW => tget_num W tb n st.m, .inl ⟨rfl, by decide⟩⟩
  | obj j =>
    obtain ⟨vs, hj, hout, hin⟩ := hl
    by_cases hr : st.m < 0 ∨ (vs.length : Int) ≤ st.m
    · rw [hout hr] at hs
      exact ⟨2, 0, false, false, 0, hs, fun W hW => mx_get_out hW hj st.m hr hT, .inl ⟨rfl, by decide⟩⟩
    · obtain ⟨k, hk⟩ := Int.eq_ofNat_of_zero_le (show 0 ≤ st.m by omega)
      obtain ⟨y, u, hg, hu, hst⟩ := hin k hk (by omega)
      rw [hg] at hs hsm
      refine ⟨0, y, true, u.isNum, u.val, hs, fun W hW => ?_, .inr ⟨rfl, rfl, u, rfl, rfl, hsm, hst⟩⟩
      have := mx_get_in hW hj hu hT
      rw [hk]
      exact this
end
end Go.Proofs.YtbmkjlpjgkfjcaaDoor
