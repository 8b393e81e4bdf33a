/-
  The document's own store: Get, Object.
  The document's own store: String.
  The document's own store: a text's fields.
  The document's own store: Text.
  The law StoreDoes: what it asks of both stores after each step.
  The law StoreDoes: kinds and sizes stay as the document has them, whatever call; how many cycles a text's laying ends; both stores' texts are alike.
-/
import Derived.Test.YtdkbgdjkdalalaaGreatDoorZZAll
import Derived.BigQuiet
import Derived.Laws.AppendOwnNone
import Derived.Deep.RegionHeld3
namespace Go.Proofs.YtdkbgdjkdalalaaGreatDoor
open Go.RowKit
theorem get_reach {m : Nat} {s : GS} (hi : GInv m s) (v : Nat) (i : Int) : hGet s.L (reachW s.L v : Nat) i = hGet s.L (addrW v : Nat) i := by
  unfold reachW
  split
  · rfl
  · rename_i hn
    have h0 : ¬ IsIn s.L 0 := fun hx => by have := (isIn_range hi.lies hx).1; omega
    rw [hGet_no (a := ((0 : Nat) : Int)) i (.inr (not_isIn.1 h0)), hGet_no (a := ((addrW v : Nat) : Int)) i (.inr (by rw [Int.toNat_natCast]; exact not_isIn.1 hn))]
theorem find_reach {m : Nat} {s : GS} (hi : GInv m s) (v : Nat) : findOb s.L (reachW s.L v) = findOb s.L (addrW v) := by
  unfold reachW
  split
  · rfl
  · rename_i hn
    have h0 : ¬ IsIn s.L 0 := fun hx => by have := (isIn_range hi.lies hx).1; omega
    rw [not_isIn.1 h0, not_isIn.1 hn]
section
variable (pr k r m : Nat) (y : SS) (U : Nat → Prop) (w : World) (h : RSt pr k r m y w U)
include h
theorem RSt.heapIn : ∃ S, RefAt w r S m y.s.L := by
  obtain ⟨_, V, hk, _, _⟩ := h
  exact hk.heapAt
set_option maxHeartbeats 1000000 in
theorem zs_Get (v : Nat) (hv64 : v < 18446744073709551616) (i : Int) :
    Calls Tryz.prog 14 #[.pointer (some ⟨pr, 0, none⟩), .int .u64 (v : Int), .int .i64 i] w (fun e w' => e = .returned (.tuple #[.int .u64 ((hGet y.s.L (addrW v : Nat) i).1 : Nat), .int .i64 (hGet y.s.L (addrW v : Nat) i).2]) ∧ Below w.heap.size w w') := by
  obtain ⟨c0, q1, q2, q3, c4⟩ := h.head
  obtain ⟨hi, hm⟩ := h.inv
  obtain ⟨S, hr⟩ := h.heapIn
  have HR := Lib.hid (fun (W : World) (hW : RefAt W r S m y.s.L) => reaches_any r S m y.s.L v W hW hi.lies (lies_len hi.lies hm) hv64)
  have HG := Lib.hid (fun (W : World) (hW : RefAt W r S m y.s.L) => ref_Get r S m y.s.L (reachW y.s.L v : Nat) i W hW hi.lies (lies_len hi.lies hm) (lies_fields hi.lies hm))
  rw [get_reach hi] at HG
  have H := Lib.hid hr
  clear h hr q1 q2 q3 hi
  generalize hGet y.s.L (addrW v : Nat) i = z at *
  obtain ⟨z1, z2⟩ := z
  go_enter Tryz.func14, Tryz.ntmps14
  go_upto_region 1 with fail
  go_quiet (first | (go_at_call 42; exact Calls.quiet_of_same ((HR.out _ (H.out.below (below_draws (Below.refl _ _) _))).mono fun e w' hh => ⟨hh.1, hh.2.symm⟩)) | (go_at_call 44; exact Calls.quiet_of_same ((HG.out _ (H.out.below (below_draws (Below.refl _ _) _))).mono fun e w' hh => ⟨hh.1, hh.2.symm⟩)))
  go_wp2_with fail
  go_ret2
  exact ⟨rfl, below_drewN (Below.refl _ _) _⟩
/-- What the document's Object answers. -/
def ObIs (o : Ob) (w : World) (e : Ending) (w' : World) : Prop := ∃ F cf, e = .returned (.tuple #[.agg #[.int .i64 (o.at_ : Int), .int .i64 (o.kind : Int), .slice F o.fs.length cf], .bool true]) ∧ Below w.heap.size w w' ∧ ∀ (j x : Nat), o.fs[j]? = some x → ∃ f, F = some ⟨f, 0, none⟩ ∧ f < w.heap.size ∧ w.cell? ⟨f, j, none⟩ = some (.int .u64 (x : Int))
def ObNone (w : World) (e : Ending) (w' : World) : Prop := e = .returned (.tuple #[.agg #[.int .i64 0, .int .i64 0, .slice none 0 0], .bool false]) ∧ Below w.heap.size w w'
set_option maxHeartbeats 2000000 in
theorem zs_Object_some (v : Nat) (hv64 : v < 18446744073709551616) (o : Ob) (ho : findOb y.s.L (addrW v) = some o) :
    Calls Tryz.prog 53 #[.pointer (some ⟨pr, 0, none⟩), .int .u64 (v : Int)] w (ObIs o w) := by
  obtain ⟨c0, q1, q2, q3, c4⟩ := h.head
  obtain ⟨hi, hm⟩ := h.inv
  obtain ⟨S, hr⟩ := h.heapIn
  obtain ⟨hmem, hat⟩ := find_mem ho
  obtain ⟨j, hj, hje⟩ := List.getElem_of_mem hmem
  have hjo : y.s.L[j]? = some o := by rw [List.getElem?_eq_getElem hj, hje]
  have hin : IsIn y.s.L (addrW v) := isIn_of ho
  have hrw : reachW y.s.L v = o.at_ := by unfold reachW; rw [if_pos hin, hat]
  have hlen := lies_len hi.lies hm
  have hfl := lies_fields hi.lies hm o hmem
  have hre := fun (W : World) (hW : RefAt W r S m y.s.L) => reaches_any r S m y.s.L v W hW hi.lies hlen hv64
  rw [hrw] at hre
  have HR := Lib.hid hre
  have HG := Lib.hid (fun (W : World) (hW : RefAt W r S m y.s.L) => find_same r S m y.s.L W hW hi.lies hlen hjo)
  obtain ⟨Ar, cr, cx, c1, hs⟩ := hr.seen
  obtain ⟨gr, rfl, hgw, k0, k1, Fs, cf, k2, hfs⟩ := hs j o hjo
  have hrr : r < w.heap.size := hr.lt
  have H := Lib.hid hr
  have HFS := Lib.hid hfs
  have hpl : pr < w.heap.size := by obtain ⟨_, _, _, _, hh⟩ := h; exact lt_of_heap hh
  have hkl : k < w.heap.size := by obtain ⟨_, V, ⟨S2, vG, vB, hk⟩, _, _⟩ := h; exact lt_of_heap hk.block
  have g1 : (j : Int) < (y.s.L.length : Int) := by omega
  have g2 : (0 : Int) ≤ (j : Int) := by omega
  have g3 : decide ((j : Int) < 0) = false := decide_eq_false (by omega)
  clear h hr hs hfs hjo hje hmem hat ho hin hrw hre q1 q2 q3 cx hi
  go_enter Tryz.func53, Tryz.ntmps53
  go_upto_region 1 with fail
  go_quiet (first | (go_at_call 42; exact Calls.quiet_of_same ((HR.out _ ((H.out.below (below_one _)).below (below_draws (Below.refl _ _) _))).mono fun e w' hh => ⟨hh.1, hh.2.symm⟩)) | (go_at_call 21; exact Calls.quiet_of_same ((HG.out _ ((H.out.below (below_one _)).below (below_draws (Below.refl _ _) _))).mono fun e w' hh => ⟨hh.1, hh.2.symm⟩)))
  go_wp2_with fail
  have HB := Lib.hid ((((below_drewN (below_one (w := w) (.cells #[.int .i64 0, .int .i64 0, .slice none 0 0] 53)) nq).setCell (p := ⟨w.heap.size, 0, none⟩) (Nat.le_refl _) (.int .i64 (o.at_ : Int))).setCell (p := ⟨w.heap.size, 1, none⟩) (Nat.le_refl _) (.int .i64 (o.kind : Int))).setCell (p := ⟨w.heap.size, 2, none⟩) (Nat.le_refl _) (.slice Fs o.fs.length cf))
  exact bodyPost_ret (v := .tuple #[.agg #[.int .i64 (o.at_ : Int), .int .i64 (o.kind : Int), .slice Fs o.fs.length cf], .bool true]) (by simp [results, Tryz.results53, go_sem]) rfl ⟨Fs, cf, rfl, HB.out, HFS.out⟩
set_option maxHeartbeats 2000000 in
theorem zs_Object_none (v : Nat) (hv64 : v < 18446744073709551616) (ho : findOb y.s.L (addrW v) = none) :
    Calls Tryz.prog 53 #[.pointer (some ⟨pr, 0, none⟩), .int .u64 (v : Int)] w (ObNone w) := by
  obtain ⟨c0, q1, q2, q3, c4⟩ := h.head
  obtain ⟨hi, hm⟩ := h.inv
  obtain ⟨S, hr⟩ := h.heapIn
  have hlen := lies_len hi.lies hm
  have hrw : reachW y.s.L v = 0 := by unfold reachW; rw [if_neg (not_isIn.2 ho)]
  have hre := fun (W : World) (hW : RefAt W r S m y.s.L) => reaches_any r S m y.s.L v W hW hi.lies hlen hv64
  rw [hrw] at hre
  have HR := Lib.hid hre
  have hno : ∀ (j : Nat) (o : Ob), y.s.L[j]? = some o → ¬ (o.at_ : Int) = ((0 : Nat) : Int) := fun j o hj => by
    have := lies_mem m 1 y.s.L hi.lies o (List.mem_of_getElem? hj)
    omega
  have HG : Hid (∀ W, RefAt W r S m y.s.L → Calls Tryz.prog 21 #[.pointer (some ⟨r, 0, none⟩), .int .i64 0] W (OneSame (-1) W)) := Lib.hid (fun W hW => (ref_Find r S m y.s.L ((0 : Nat) : Int) W hW hlen).mono fun e w' hh => by
    obtain ⟨hw, hf | ⟨i, o, _, h2, h3⟩⟩ := hh
    · exact ⟨hf.1, hw⟩
    · exact absurd h3 (hno i o h2))
  have H := Lib.hid hr
  have hpl : pr < w.heap.size := by obtain ⟨_, _, _, _, hh⟩ := h; exact lt_of_heap hh
  have hkl : k < w.heap.size := by obtain ⟨_, V, ⟨S2, vG, vB, hk⟩, _, _⟩ := h; exact lt_of_heap hk.block
  have HR2 : Hid (∀ W, RefAt W r S m y.s.L → Calls Tryz.prog 42 #[.pointer (some ⟨r, 0, none⟩), .int .u64 (v : Int)] W (OneSame 0 W)) := Lib.hid (fun W hW => HR.out W hW)
  clear h hr hno hrw hre q1 q2 q3 hi HR ho
  go_enter Tryz.func53, Tryz.ntmps53
  go_upto_region 1 with fail
  go_quiet (first | (go_at_call 42; exact Calls.quiet_of_same ((HR2.out _ ((H.out.below (below_one _)).below (below_draws (Below.refl _ _) _))).mono fun e w' hh => ⟨hh.1, hh.2.symm⟩)) | (go_at_call 21; exact Calls.quiet_of_same ((HG.out _ ((H.out.below (below_one _)).below (below_draws (Below.refl _ _) _))).mono fun e w' hh => ⟨hh.1, hh.2.symm⟩)))
  go_wp2_with fail
  have HB := Lib.hid ((((below_drewN (below_one (w := w) (.cells #[.int .i64 0, .int .i64 0, .slice none 0 0] 53)) nq).setCell (p := ⟨w.heap.size, 0, none⟩) (Nat.le_refl _) (.int .i64 0)).setCell (p := ⟨w.heap.size, 1, none⟩) (Nat.le_refl _) (.int .i64 0)).setCell (p := ⟨w.heap.size, 2, none⟩) (Nat.le_refl _) (.slice none 0 0))
  exact bodyPost_ret (v := .tuple #[.agg #[.int .i64 0, .int .i64 0, .slice none 0 0], .bool false]) (by simp [results, Tryz.results53, go_sem]) rfl ⟨rfl, HB.out⟩
end
set_option maxHeartbeats 400000 in
theorem rNum_any (n : Int) (w : World) (h0 : 0 ≤ n) (h1 : n ≤ 18446744073709551615) : Calls Tryz.prog 83 #[.int .u64 n] w fun e w' => e = .returned (.int .i64 (WNum n)) ∧ w = w' := by
  by_cases h : 4611686018427387903 < n / 2
  · go_enter Tryz.func83, Tryz.ntmps83
    go_wp2
    go_ret
    exact ⟨ret_int (by unfold WNum; rw [if_neg (by omega)]; omega), rfl⟩
  · go_enter Tryz.func83, Tryz.ntmps83
    go_wp2
    go_ret
    exact ⟨ret_int (by unfold WNum; rw [if_pos (by omega)]), rfl⟩
theorem flat_at {l : List Nat} {i : Nat} (h : i < 8 * l.length) : (l.flatMap fun x => bytesTo x 8)[i]? = some (byteAt (l.getD (i / 8) 0) (i % 8)) := by
  induction l generalizing i with
  | nil => simp at h
  | cons x l ih =>
    rw [List.flatMap_cons, List.getElem?_append, bytesTo_len]
    by_cases hi : i < 8
    · rw [if_pos hi, show i / 8 = 0 by omega, show i % 8 = i by omega]
      unfold bytesTo
      simp [hi]
    · rw [if_neg hi, ih (i := i - 8) (by simp at h; omega), show i / 8 = (i - 8) / 8 + 1 by omega, show i % 8 = (i - 8) % 8 by omega]
      rfl
theorem text_at {fs : List Nat} {i : Nat} (h : i < 8 * (fs.length - 1)) : (textTo fs fs.length)[i]? = some (byteAt (fs.getD (1 + i / 8) 0) (i % 8)) := by
  unfold textTo
  have hl : ((fs.drop 1).take (fs.length - 1)).length = fs.length - 1 := by simp
  rw [flat_at (by rw [hl]; exact h)]
  have : ((fs.drop 1).take (fs.length - 1)).getD (i / 8) 0 = fs.getD (1 + i / 8) 0 := by
    simp only [List.getD_eq_getElem?_getD, List.getElem?_take, List.getElem?_drop]
    rw [if_pos (by omega)]
  rw [this]
theorem text_take {fs : List Nat} {i : Nat} (h : i < 8 * (fs.length - 1)) : (textTo fs fs.length).take (i + 1) = (textTo fs fs.length).take i ++ [byteAt (fs.getD (1 + i / 8) 0) (i % 8)] := by
  have h1 := text_at h
  rw [List.take_add_one, h1]
  rfl
theorem byte_div (x k : Nat) : x / 256 ^ (k + 1) = x / 256 ^ k / 256 := by rw [Nat.pow_succ, Nat.div_div_eq_div_mul]
section
variable (pr k r m : Nat) (y : SS) (U : Nat → Prop) (w : World) (h : RSt pr k r m y w U)
include h
set_option maxHeartbeats 4000000 in
set_option maxRecDepth 100000 in
theorem zs_String_no (v : Nat) (hv64 : v < 18446744073709551616) (ho : findOb y.s.L (addrW v) = none ∨ ∃ o, findOb y.s.L (addrW v) = some o ∧ o.kind ≠ 1 ∧ o.kind ≠ 0) :
    Calls Tryz.prog 54 #[.pointer (some ⟨pr, 0, none⟩), .int .u64 (v : Int)] w (StrIs (strV y.s.L (addrW v)) w) := by
  rcases ho with ho | ⟨o, ho, hk1, hk0⟩
  · have HO := Lib.hid (zs_Object_none pr k r m y U w h v hv64 ho)
    have HS : Hid (strV y.s.L (addrW v) = ([], 7)) := Lib.hid (by unfold strV; rw [ho])
    clear h ho
    go_enter Tryz.func54, Tryz.ntmps54
    go_wp2_with fail
    refine HO.out.mono ?_
    rintro e w1 ⟨rfl, hb⟩
    have HB := Lib.hid (hb.trans ((below_one (.cells #[.int .i64 0, .int .i64 0, .slice none 0 0] 53)).mono hb.size))
    clear hb
    go_wp2_with fail
    go_ret2
    exact ⟨by rw [HS.out]; rfl, HB.out⟩
  · have HO := Lib.hid (zs_Object_some pr k r m y U w h v hv64 o ho)
    have HS : Hid (strV y.s.L (addrW v) = ([], 8)) := Lib.hid (by unfold strV; rw [ho]; simp only; rw [if_neg hk0, if_pos hk1])
    have B1 : ((o.kind : Int) != 1) = true := by rw [bne_iff_ne]; omega
    clear h ho hk1 hk0
    go_enter Tryz.func54, Tryz.ntmps54
    go_wp2_with fail
    refine HO.out.mono ?_
    rintro e w1 ⟨F, cf, rfl, hb, hx⟩
    have HB := Lib.hid (hb.trans ((below_one (.cells #[.int .i64 (o.at_ : Int), .int .i64 (o.kind : Int), .slice F o.fs.length cf] 53)).mono hb.size))
    clear hb hx
    go_wp2_with fail
    go_ret2
    exact ⟨by rw [HS.out]; rfl, HB.out⟩
set_option maxHeartbeats 8000000 in
set_option maxRecDepth 100000 in
theorem zs_String_yes (hv : Vals y.s.L) (v : Nat) (hv64 : v < 18446744073709551616) (o : Ob) (ho : findOb y.s.L (addrW v) = some o) (hk : o.kind = 1) (hfl : o.fs.length ≤ 4096) :
    Calls Tryz.prog 54 #[.pointer (some ⟨pr, 0, none⟩), .int .u64 (v : Int)] w (StrIs (strV y.s.L (addrW v)) w) := by
  have HO := Lib.hid (zs_Object_some pr k r m y U w h v hv64 o ho)
  have hs0 : strV y.s.L (addrW v) = if WIs (o.fs.getD 0 0 : Nat) = false ∨ WNum (o.fs.getD 0 0 : Nat) < 0 ∨ fieldsOf (WNum (o.fs.getD 0 0 : Nat)).toNat ≠ o.fs.length then ([], 5) else ((textTo o.fs o.fs.length).take (WNum (o.fs.getD 0 0 : Nat)).toNat, 0) := by
    unfold strV
    rw [ho]
    simp only
    rw [if_neg (by omega), if_neg (by omega)]
  have hvo : ∀ x ∈ o.fs, x < 18446744073709551616 := hv o (find_mem ho).1
  have HVO := Lib.hid hvo
  generalize hst : strV y.s.L (addrW v) = st at *
  have B1 : ((o.kind : Int) != 1) = false := by rw [hk]; rfl
  clear h ho hk hv hvo hst
  have HS0 := Lib.hid hs0
  obtain ⟨i0, hi0, hz0, hz1, hz2⟩ := info_parts infoByte
  clear hs0
  go_enter Tryz.func54, Tryz.ntmps54
  go_wp2_with fail
  refine HO.out.mono ?_
  rintro e w1 ⟨F, cf, rfl, hb, hx⟩
  have hb2 := hb.trans ((below_one (.cells #[.int .i64 (o.at_ : Int), .int .i64 (o.kind : Int), .slice F o.fs.length cf] 53)).mono hb.size)
  have hh := heap_alloc_new w1 (.cells #[.int .i64 (o.at_ : Int), .int .i64 (o.kind : Int), .slice F o.fs.length cf] 53)
  have HF : Hid (∀ (j x : Nat), o.fs[j]? = some x → ∃ f, F = some ⟨f, 0, none⟩ ∧ f < w.heap.size ∧ (w1.alloc (.cells #[.int .i64 (o.at_ : Int), .int .i64 (o.kind : Int), .slice F o.fs.length cf] 53)).cell? ⟨f, j, none⟩ = some (.int .u64 (x : Int))) := Lib.hid (fun j x hj => by
    obtain ⟨f, hf, hfl2, hc⟩ := hx j x hj
    exact ⟨f, hf, hfl2, (hb2.cell (p := ⟨f, j, none⟩) hfl2).trans hc⟩)
  have HB2 := Lib.hid hb2
  have hzz : w1.heap.size < (w1.alloc (.cells #[.int .i64 (o.at_ : Int), .int .i64 (o.kind : Int), .slice F o.fs.length cf] 53)).heap.size := by simp
  have hwz : w.heap.size ≤ w1.heap.size := hb.size
  clear hx hb hb2 HO
  go_upto_region 2 with fail
  generalize w1.alloc (.cells #[.int .i64 (o.at_ : Int), .int .i64 (o.kind : Int), .slice F o.fs.length cf] 53) = w2 at *
  generalize w1.heap.size = pb at *
  have p1 : w2.cell? ⟨pb, 1, none⟩ = some (.int .i64 (o.kind : Int)) := by rw [Lib.cell_of_heap hh]; rfl
  have p2 : w2.cell? ⟨pb, 2, none⟩ = some (.slice F o.fs.length cf) := by rw [Lib.cell_of_heap hh]; rfl
  clear hh
  by_cases hl0 : o.fs.length = 0
  · have B2 : ((o.fs.length : Int) == 0) = true := by rw [beq_iff_eq]; omega
    have HS : Hid (st = ([], 5)) := Lib.hid (by rw [HS0.out, List.eq_nil_of_length_eq_zero hl0]; exact if_pos (.inl rfl))
    clear hl0
    go_wp2_with fail
    go_ret2
    exact ⟨by rw [HS.out]; rfl, HB2.out⟩
  · have B2 : ((o.fs.length : Int) == 0) = false := by rw [beq_eq_false_iff_ne]; omega
    have g1 : (0 : Int) < (o.fs.length : Int) := by omega
    have g1' : 0 < o.fs.length := by omega
    obtain ⟨f, rfl, hfw, kf0⟩ := HF.out 0 _ (List.getElem?_eq_getElem g1')
    have e0 : o.fs[0] = o.fs.getD 0 0 := by simp [List.getD_eq_getElem?_getD, g1']
    rw [e0] at kf0
    have hx64 : o.fs.getD 0 0 < 18446744073709551616 := HVO.out _ (getD_mem g1')
    have HN := Lib.hid (rnum_any (o.fs.getD 0 0) hx64 w2)
    have HM := Lib.hid (rNum_any (o.fs.getD 0 0 : Nat) w2 (by omega) (by omega))
    have hfw2 : f < w2.heap.size := by omega
    clear hl0 e0
    by_cases hod : o.fs.getD 0 0 % 2 = 1
    · have HI : Hid (WIs (o.fs.getD 0 0 : Nat) = true) := Lib.hid (by unfold WIs; exact decide_eq_true (by omega))
      rw [decide_eq_true hod] at HN
      have HST : Hid (st = if WNum (o.fs.getD 0 0 : Nat) < 0 ∨ fieldsOf (WNum (o.fs.getD 0 0 : Nat)).toNat ≠ o.fs.length then ([], 5) else ((textTo o.fs o.fs.length).take (WNum (o.fs.getD 0 0 : Nat)).toNat, 0)) := Lib.hid (by rw [HS0.out, HI.out]; simp)
      clear HS0 HI hod
      generalize WNum (o.fs.getD 0 0 : Nat) = N at *
      generalize o.fs.getD 0 0 = x0 at *
      by_cases hN : N < 0
      · have d1 : decide (N < 0) = true := decide_eq_true hN
        have HS : Hid (st = ([], 5)) := Lib.hid (by rw [HST.out]; exact if_pos (.inl hN))
        clear hN HST
        go_wp2_with fail
        refine HN.out.mono ?_
        rintro e w' ⟨rfl, rfl⟩
        go_wp2_with fail
        refine HM.out.mono ?_
        rintro e w' ⟨rfl, rfl⟩
        go_wp2_with fail
        go_ret2
        exact ⟨by rw [HS.out]; rfl, HB2.out⟩
      · have d1 : decide (N < 0) = false := decide_eq_false hN
        obtain ⟨n, rfl⟩ := Int.eq_ofNat_of_zero_le (show 0 ≤ N by omega)
        by_cases hbig : 32768 < n
        · have d2 : decide (32768 < (n : Int)) = true := decide_eq_true (by omega)
          have HS : Hid (st = ([], 5)) := Lib.hid (by rw [HST.out]; exact if_pos (.inr (by unfold fieldsOf; rw [Int.toNat_natCast]; omega)))
          clear hN HST hbig
          go_wp2_with fail
          refine HN.out.mono ?_
          rintro e w' ⟨rfl, rfl⟩
          go_wp2_with fail
          refine HM.out.mono ?_
          rintro e w' ⟨rfl, rfl⟩
          go_wp2_with fail
          refine HM.out.mono ?_
          rintro e w' ⟨rfl, rfl⟩
          go_wp2_with fail
          go_ret2
          exact ⟨by rw [HS.out]; rfl, HB2.out⟩
        · have d2 : decide (32768 < (n : Int)) = false := decide_eq_false (by omega)
          have HST2 : Hid (st = if fieldsOf n ≠ o.fs.length then ([], 5) else ((textTo o.fs o.fs.length).take n, 0)) := Lib.hid (by
            rw [HST.out, Int.toNat_natCast]
            simp [hN])
          have hn32 : n ≤ 32768 := by omega
          clear hN HST hbig
          go_wp2_with fail
          refine HN.out.mono ?_
          rintro e w' ⟨rfl, rfl⟩
          go_wp2_with fail
          refine HM.out.mono ?_
          rintro e w' ⟨rfl, rfl⟩
          go_wp2_with fail
          refine HM.out.mono ?_
          rintro e w' ⟨rfl, rfl⟩
          go_wp2_with fail
          refine HM.out.mono ?_
          rintro e w' ⟨rfl, rfl⟩
          go_wp2_with fail
          obtain ⟨wn, hwn⟩ : ∃ wn : Nat, wn = (n + 7) / 8 := ⟨_, rfl⟩
          go_loop [9] (fun v9 => ∃ t : Nat, t ≤ wn ∧ v9 = .int .i64 t) (fun v9 => wn - (intOf v9).toNat)
          case atStart => exact ⟨0, by omega, by go_num⟩
          case round =>
            obtain ⟨t, ht, rfl⟩ := hrel
            by_cases htw : t < wn
            · have g2 : decide ((t : Int) * 8 < (n : Int)) = true := decide_eq_true (by omega)
              go_wp2_with fail
              go_round
              case rel => exact ⟨t + 1, by omega, by go_num⟩
              case measure => simp [intOf]; omega
            · have g2 : decide ((t : Int) * 8 < (n : Int)) = false := decide_eq_false (by omega)
              by_cases hfo : o.fs.length = 1 + wn
              · have C2 : ((o.fs.length : Int) != 1 + (t : Int)) = false := by rw [bne_eq_false_iff_eq]; omega
                have HS : Hid (st = ((textTo o.fs o.fs.length).take n, 0)) := Lib.hid (by rw [HST2.out]; exact if_neg (by unfold fieldsOf; omega))
                have hn8 : n ≤ 8 * (o.fs.length - 1) := by omega
                have hl1 := textTo_len o.fs o.fs.length (by omega) (Nat.le_refl _)
                have HL1 : Hid (∀ i, i ≤ n → ((textTo o.fs o.fs.length).take i).length = i) := Lib.hid (fun i hi => by rw [List.length_take, hl1]; omega)
                have HTT : Hid (∀ i, i < n → (textTo o.fs o.fs.length).take (i + 1) = (textTo o.fs o.fs.length).take i ++ [byteAt (o.fs.getD (1 + i / 8) 0) (i % 8)]) := Lib.hid (fun i hi => text_take (by omega))
                have hlen1 : 1 + (n + 7) / 8 ≤ o.fs.length := by omega
                have HG0 : Hid (GrowB w2.heap.size w2 (w2.alloc (.cells #[] 5)) (.slice (some ⟨w2.heap.size, 0, none⟩) 0 0) []) := Lib.hid ⟨⟨⟨rfl, .inr ⟨w2.heap.size, 0, #[], rfl, Nat.zero_le _, heap_alloc_new w2 _, Nat.le_refl _, by unfold maxLen; decide, rfl, rfl⟩⟩, fun b hx => (by
                  have hx : w2.heap.size = b := Option.some.inj hx
                  show w2.heap.size ≤ b
                  omega)⟩, below_one _, by simp⟩
                have htn : n ≤ t * 8 := by omega
                have htn2 : ¬ t * 8 < n := by omega
                have g2n : decide (t * 8 < n) = false := decide_eq_false (by omega)
                have hf1 : o.fs.length ≤ 1 + t := by omega
                have hf2 : 1 + t ≤ o.fs.length := by omega
                clear hwn hfo hl1 HST2 htw ht
                generalize textTo o.fs o.fs.length = L1 at *
                go_wp2_with fail
                go_loopw [11, 10] (fun vi vo wr => ∃ i g c : Nat, i ≤ n ∧ vi = .int .i64 i ∧ vo = .slice (some ⟨g, 0, none⟩) i c ∧ Hid (GrowB w2.heap.size w2 wr (.slice (some ⟨g, 0, none⟩) i c) (L1.take i))) (fun vi _ _ => n - (intOf vi).toNat)
                case atStart => exact ⟨0, _, _, by omega, by go_num, rfl, HG0⟩
                case round =>
                  obtain ⟨i, g5, c5, hi, rfl, rfl, HG⟩ := hrel
                  clear HG0
                  by_cases hin : i < n
                  · have g2 : decide ((i : Int) < (n : Int)) = true := decide_eq_true (by omega)
                    have g2' : decide (i < n) = true := decide_eq_true hin
                    have hjl : 1 + i / 8 < o.fs.length := by omega
                    obtain ⟨f2, hf2, hf2w, kx⟩ := HF.out (1 + i / 8) _ (List.getElem?_eq_getElem hjl)
                    obtain rfl : f = f2 := by injection hf2 with hf2; injection hf2
                    have ex : o.fs[1 + i / 8] = o.fs.getD (1 + i / 8) 0 := by simp [List.getD_eq_getElem?_getD, hjl]
                    rw [ex] at kx
                    have kx := (HG.out.2.1.cell (p := ⟨f, 1 + i / 8, none⟩) hfw2).trans kx
                    have p2 := (HG.out.2.1.cell (p := ⟨pb, 2, none⟩) hzz).trans p2
                    have HTI := Lib.hid (HTT.out i hin)
                    have HLI := Lib.hid (HL1.out i (by omega))
                    have hx2 := HVO.out _ (getD_mem hjl)
                    have g3 : (1 + (i : Int) / 8) < (o.fs.length : Int) := by omega
                    have g4 : (0 : Int) ≤ 1 + (i : Int) / 8 := by omega
                    have HJ := Lib.hid (show (1 + (i : Int) / 8).toNat = 1 + i / 8 by omega)
                    have hpz : pb < wr.heap.size := Nat.lt_of_lt_of_le hzz HG.out.2.1.size
                    have hfz : f < wr.heap.size := Nat.lt_of_lt_of_le hfw2 HG.out.2.1.size
                    clear ex hf2
                    generalize o.fs.getD (1 + i / 8) 0 = xx at *
                    go_upto_region 18 with fail
                    have e18 := HJ.out
                    go_wp2_with fail
                    go_loop [13, 12] (fun vk vx => ∃ kk : Nat, kk ≤ i % 8 ∧ vk = .int .i64 kk ∧ vx = .int .u64 ((xx / 256 ^ kk : Nat) : Int)) (fun vk _ => i % 8 - (intOf vk).toNat)
                    case atStart => exact ⟨0, by omega, by go_num, by rw [Nat.pow_zero, Nat.div_one]⟩
                    case round =>
                      obtain ⟨kk, hkk, rfl, rfl⟩ := hrel
                      by_cases hki : kk < i % 8
                      · have g6 : decide ((kk : Int) < (i : Int) % 8) = true := decide_eq_true (by omega)
                        have HDV := Lib.hid (show ((xx / 256 ^ kk : Nat) : Int) / 256 = ((xx / 256 ^ (kk + 1) : Nat) : Int) by rw [byte_div]; omega)
                        have HWW := Lib.hid (show IntKind.u64.wrap ((xx / 256 ^ (kk + 1) : Nat) : Int) = ((xx / 256 ^ (kk + 1) : Nat) : Int) by
                          have hq := Nat.div_le_self xx (256 ^ (kk + 1))
                          generalize xx / 256 ^ (kk + 1) = qq at hq ⊢
                          rw [IntKind.wrap_u64]
                          omega)
                        generalize xx / 256 ^ kk = xk at *
                        go_wp2_with fail
                        go_round
                        case rel => exact ⟨kk + 1, by omega, by go_num, by rw [HDV.out, HWW.out]⟩
                        case measure => simp [intOf]; omega
                      · have g6 : decide ((kk : Int) < (i : Int) % 8) = false := decide_eq_false (by omega)
                        have hke : kk = i % 8 := by omega
                        have hby : xx / 256 ^ kk % 256 = byteAt xx (i % 8) := by rw [hke]; rfl
                        rw [← hby] at HTI
                        generalize xx / 256 ^ kk = xk at *
                        have HW8 := Lib.hid (show IntKind.u8.wrap ((xk : Int) % 256) = ((xk % 256 : Nat) : Int) by rw [IntKind.wrap_u8]; omega)
                        clear hke hby hki
                        have hown : Hid ((wr.alloc (.cells #[.int .u8 ((xk % 256 : Nat) : Int)] 5)).ownsRow 0 5 1 (.slice (some ⟨g5, 0, none⟩) i c5) i (nums .u8 (L1.take i))) := Lib.hid (by
                          have := HG.out.1.1.alloc (.cells #[.int .u8 ((xk % 256 : Nat) : Int)] 5)
                          rw [HLI.out] at this
                          exact this)
                        have hsrc := Lib.hid (byte_src wr (xk % 256))
                        have hone := Lib.hid (byte_one (xk % 256))
                        have hnn : ((xk % 256 : Nat) : Int) = (xk : Int) % 256 := by omega
                        rw [hnn] at hown hsrc hone
                        go_upto_region 23 with fail
                        go_wp2_with (at_builtin; refine wpList_append_own_at _ rfl (.tmp 91) (.tmp 95) 90 rfl 0 5 i0 _ 1 1 Tryz.underlying90 hi0 hz0 hz1 hz2 rfl (by decide) _ _ _ rfl hown.out ⟨wr.heap.size, 0, none⟩ 1 1 [.int .u8 ((xk : Int) % 256)] rfl rfl hsrc.out hone.out (by unfold maxLen; omega) (by omega) (Nat.zero_le _) ?_)
                        intro v1 w4 hown1 hgr1 hnn1 hat1
                        rw [← hnn] at hown1
                        have hpu := HG.out.push (x := xk % 256) (by rw [HLI.out]; exact hown1) hgr1 (by simpa using hat1)
                        rw [← HTI.out] at hpu
                        have HPU := Lib.hid hpu
                        obtain ⟨f3, k3, rfl⟩ : ∃ f1 k1, v1 = .slice (some ⟨f1, 0, none⟩) (i + 1) k1 := by
                          rcases hown1.2 with ⟨h, _⟩ | ⟨g', k', _, h, _⟩
                          · exact (hnn1 h).elim
                          · exact ⟨g', k', h⟩
                        clear hown1 hgr1 hnn1 hat1 hown hsrc hone hpu hnn
                        go_wp2_with fail
                        go_roundw
                        case rel => exact ⟨i + 1, _, _, by omega, by go_num, rfl, HPU⟩
                        case measure => simp [intOf]; omega
                  · have g2 : decide ((i : Int) < (n : Int)) = false := decide_eq_false (by omega)
                    have g2' : decide (i < n) = false := decide_eq_false hin
                    have hie : i = n := by omega
                    have hlt := HL1.out i hi
                    have hcv := conv_bytes (l := L1.take i) (c := c5) (g := g5) (by rw [hlt]; exact HG.out) i c5 (by omega)
                    rw [List.take_take, Nat.min_self] at hcv
                    have HSS : Hid (st = (L1.take i, 0)) := Lib.hid (by rw [HS.out, hie])
                    have HB5 := Lib.hid (HB2.out.trans (HG.out.2.1.mono HB2.out.size))
                    clear HG hie hlt
                    generalize L1.take i = l1 at *
                    go_wp2_with fail
                    go_ret2
                    exact ⟨by rw [HSS.out]; rfl, HB5.out⟩
              · have C2 : ((o.fs.length : Int) != 1 + (t : Int)) = true := by rw [bne_iff_ne]; omega
                have HS : Hid (st = ([], 5)) := Lib.hid (by rw [HST2.out]; exact if_pos (by unfold fieldsOf; omega))
                clear HST2 hfo htw
                go_wp2_with fail
                go_ret2
                exact ⟨by rw [HS.out]; rfl, HB2.out⟩
    · have HS : Hid (st = ([], 5)) := Lib.hid (by rw [HS0.out]; exact if_pos (.inl (by unfold WIs; exact decide_eq_false (by omega))))
      rw [decide_eq_false hod] at HN
      clear HS0 hod
      generalize WNum (o.fs.getD 0 0 : Nat) = N at *
      generalize o.fs.getD 0 0 = x0 at *
      go_wp2_with fail
      refine HN.out.mono ?_
      rintro e w' ⟨rfl, rfl⟩
      go_wp2_with fail
      go_ret2
      exact ⟨by rw [HS.out]; rfl, HB2.out⟩
end
/-- Field j of a text of which i bytes have been laid. -/
def fW (l : List UInt8) (i j : Nat) : Nat := if j = 0 then 2 * l.length + 1 else packL ((l.drop (8 * (j - 1))).take (min 8 (i - 8 * (j - 1))))
def fN (l : List UInt8) (i n : Nat) : List Nat := (List.range n).map (fW l i)
theorem fN_len (l : List UInt8) (i n : Nat) : (fN l i n).length = n := by simp [fN]
theorem fN_at {l : List UInt8} {i n j : Nat} (h : j < n) : (fN l i n).getD j 0 = fW l i j := by simp [fN, List.getD_eq_getElem?_getD, h]
theorem fW_new {l : List UInt8} {i : Nat} (h : i % 8 = 0) : fW l i (1 + i / 8) = 0 := by
  unfold fW
  rw [if_neg (by omega), show min 8 (i - 8 * (1 + i / 8 - 1)) = 0 by omega]
  rfl
theorem fN_new {l : List UInt8} {i : Nat} (h : i % 8 = 0) : fN l i (1 + i / 8) ++ [0] = fN l i (2 + i / 8) := by
  unfold fN
  rw [show 2 + i / 8 = (1 + i / 8) + 1 by omega, List.range_succ, List.map_append, List.map_singleton, fW_new h]
theorem fW_old {l : List UInt8} {i j : Nat} (h : j < 1 + i / 8) : fW l (i + 1) j = fW l i j := by
  unfold fW
  split
  · rfl
  · rw [show min 8 (i + 1 - 8 * (j - 1)) = 8 by omega, show min 8 (i - 8 * (j - 1)) = 8 by omega]
theorem fW_add {l : List UInt8} {i : Nat} (h : i < l.length) : fW l (i + 1) (1 + i / 8) = fW l i (1 + i / 8) + (l[i]).toNat * 256 ^ (i % 8) := by
  unfold fW
  rw [if_neg (by omega), if_neg (by omega), show 1 + i / 8 - 1 = i / 8 by omega, show min 8 (i + 1 - 8 * (i / 8)) = i % 8 + 1 by omega, show min 8 (i - 8 * (i / 8)) = i % 8 by omega]
  have h1 : (l.drop (8 * (i / 8)))[i % 8]? = some l[i] := by
    rw [List.getElem?_drop, show 8 * (i / 8) + i % 8 = i by omega]
    exact List.getElem?_eq_getElem h
  rw [List.take_add_one, h1]
  show packL (_ ++ [l[i]]) = _
  rw [packL_snoc]
  have h2 : ((l.drop (8 * (i / 8))).take (i % 8)).length = i % 8 := by
    rw [List.length_take, List.length_drop]
    omega
  rw [h2]
theorem fN_add {l : List UInt8} {i : Nat} (h : i < l.length) : (fN l i (2 + i / 8)).set (1 + i / 8) (fW l i (1 + i / 8) + (l[i]).toNat * 256 ^ (i % 8)) = fN l (i + 1) (2 + i / 8) := by
  refine List.ext_getElem? fun j => ?_
  rw [List.getElem?_set]
  by_cases hj : 1 + i / 8 = j
  · subst hj
    rw [if_pos rfl, fN_len, if_pos (by omega)]
    unfold fN
    rw [List.getElem?_map, List.getElem?_range (by omega), ← fW_add h]
    rfl
  · rw [if_neg hj]
    unfold fN
    rw [List.getElem?_map, List.getElem?_map]
    by_cases hjl : j < 2 + i / 8
    · rw [List.getElem?_range hjl]
      show some (fW l i j) = some (fW l (i + 1) j)
      rw [fW_old (by omega)]
    · rw [List.getElem?_eq_none (by simp; omega)]
      rfl
theorem fW_text (l : List UInt8) (j : Nat) : fW l l.length j = textW l j := by
  unfold fW textW
  split
  · rfl
  · have h : (l.drop (8 * (j - 1))).length = l.length - 8 * (j - 1) := List.length_drop
    rw [← h, ← List.take_eq_take_min]
theorem fW_lt (l : List UInt8) (i j : Nat) (hl : l.length ≤ 1000000) : fW l i j < 18446744073709551616 := by
  unfold fW
  split
  · omega
  · have h1 := packL_lt ((l.drop (8 * (j - 1))).take (min 8 (i - 8 * (j - 1))))
    have h2 : ((l.drop (8 * (j - 1))).take (min 8 (i - 8 * (j - 1)))).length ≤ 8 := by rw [List.length_take]; omega
    have h3 : 256 ^ ((l.drop (8 * (j - 1))).take (min 8 (i - 8 * (j - 1)))).length ≤ 256 ^ 8 := Nat.pow_le_pow_right (by decide) h2
    have h4 : (256 : Nat) ^ 8 = 18446744073709551616 := by decide
    omega
set_option maxHeartbeats 400000 in
theorem rWrap_any (n : Nat) (hn : n ≤ 4611686018427387903) (w : World) : Calls Tryz.prog 93 #[.int .i64 (n : Int)] w fun e w' => e = .returned (.int .i64 (n : Int)) ∧ w = w' := by
  go_enter Tryz.func93, Tryz.ntmps93
  go_wp2
  go_ret
  exact ⟨rfl, rfl⟩
set_option maxHeartbeats 400000 in
theorem rOf_any (n : Nat) (hn : n ≤ 1000000) (w : World) : Calls Tryz.prog 81 #[.int .i64 (n : Int)] w fun e w' => e = .returned (.int .u64 ((2 * n + 1 : Nat) : Int)) ∧ w = w' := by
  go_enter Tryz.func81, Tryz.ntmps81
  go_wp2_with fail
  refine (rWrap_any n (by omega) w).mono ?_
  rintro e w' ⟨rfl, rfl⟩
  go_wp2_with fail
  go_ret
  exact ⟨ret_int (by omega), rfl⟩
theorem mul_step (c kk : Nat) (hc : c < 256) (hk : kk < 7) : IntKind.u64.wrap (((c * 256 ^ kk : Nat) : Int) * 256) = ((c * 256 ^ (kk + 1) : Nat) : Int) := by
  have h1 : 256 ^ kk ≤ 256 ^ 6 := Nat.pow_le_pow_right (by decide) (by omega)
  have h2 : c * 256 ^ kk ≤ 255 * 256 ^ 6 := Nat.mul_le_mul (by omega) h1
  have h3 : c * 256 ^ (kk + 1) = c * 256 ^ kk * 256 := by rw [Nat.pow_succ, Nat.mul_assoc]
  rw [h3, IntKind.wrap_u64]
  generalize c * 256 ^ kk = z at h2 ⊢
  have h4 : (255 : Nat) * 256 ^ 6 = 71776119061217280 := by decide
  omega
theorem infoU64 : (Tryz.prog.info? 33).map (fun i => (i.zero, i.size, i.bytes)) = some (some (.int .u64 0), 1, 8) := by kernel_rfl
def FieldsIs (l : List Nat) (w : World) (e : Ending) (w' : World) : Prop := ∃ g c, e = .returned (.slice (some ⟨g, 0, none⟩) l.length c) ∧ Words w' 33 g c l ∧ w.heap.size ≤ g ∧ Below w.heap.size w w'
/-- A row of one's own that grows. -/
def GrowW (w0 w : World) (g c : Nat) (l : List Nat) : Prop := Words w 33 g c l ∧ w0.heap.size ≤ g ∧ Below w0.heap.size w0 w
theorem GrowW.set {w0 w : World} {g c : Nat} {l : List Nat} (h : GrowW w0 w g c l) (i x : Nat) : GrowW w0 (w.setCell ⟨g, i, none⟩ (.int .u64 (x : Int))) g c (l.set i x) :=
  ⟨(h.1.set i x).1, h.2.1, h.2.2.setCell (p := ⟨g, i, none⟩) h.2.1 _⟩
theorem GrowW.push {w0 w w' : World} {g c x : Nat} {l : List Nat} {v' : Value} {o : Obj} (h : GrowW w0 w g c l) (ho : w'.ownsRow 0 33 1 v' (l.length + 1) (u64s l ++ [.int .u64 (x : Int)])) (hn : v' ≠ .slice none 0 0) (hg : (w.alloc o).grownBy w' (Value.slice (some ⟨g, 0, none⟩) l.length c).ownBlock) (hat : v'.ownBlock = (Value.slice (some ⟨g, 0, none⟩) l.length c).ownBlock ∨ v'.ownBlock = some (w.alloc o).heap.size) :
    ∃ g' c', v' = .slice (some ⟨g', 0, none⟩) (l.length + 1) c' ∧ GrowW w0 w' g' c' (l ++ [x]) := by
  obtain ⟨g', c', hv⟩ : ∃ f1 k1, v' = .slice (some ⟨f1, 0, none⟩) (l.length + 1) k1 := by
    rcases ho.2 with ⟨h, _⟩ | ⟨g', k', _, h, _⟩
    · exact (hn h).elim
    · exact ⟨g', k', h⟩
  subst hv
  have hz := h.2.2.size
  have hge : w0.heap.size ≤ g' := by
    rcases hat with hh | hh
    · have : some g' = some g := hh
      have := Option.some.inj this
      have := h.2.1
      omega
    · have : some g' = some (w.alloc o).heap.size := hh
      have := Option.some.inj this
      simp at this
      omega
  refine ⟨g', c', rfl, ?_, hge, ?_⟩
  · unfold Words
    rw [List.length_append]
    have : u64s l ++ [.int .u64 (x : Int)] = u64s (l ++ [x]) := by simp [u64s]
    rw [← this]
    exact ho
  · have h1 : Below w0.heap.size w0 (w.alloc o) := h.2.2.alloc hz o
    refine ⟨hg.os.trans h1.os, hg.tape.trans h1.tape, hg.output.trans h1.output, Nat.le_trans h1.size hg.size, fun b hb => (hg.block b (Nat.lt_of_lt_of_le hb h1.size) (fun he => ?_)).trans (h1.block b hb)⟩
    have he : some b = some g := he
    have := Option.some.inj he
    have := h.2.1
    omega
set_option maxHeartbeats 4000000 in
set_option maxRecDepth 100000 in
theorem zs_Fields (t : ByteArray) (ht : t.size ≤ 32760) (w : World) : Calls Tryz.prog 51 #[.string t] w (FieldsIs (fN t.data.toList t.size (1 + (t.size + 7) / 8)) w) := by
  obtain ⟨i0, hi0, hz0, hz1, hz2⟩ := info_parts infoU64
  have HOF := Lib.hid (rOf_any t.size (by omega) w)
  have HG0 : Hid (GrowW w (w.alloc (.cells #[.int .u64 ((2 * t.size + 1 : Nat) : Int)] 33)) w.heap.size 1 (fN t.data.toList 0 1)) := Lib.hid (by
    have hl : fN t.data.toList 0 1 = [2 * t.size + 1] := by
      unfold fN fW
      simp
    rw [hl]
    exact ⟨⟨rfl, .inr ⟨w.heap.size, 1, _, rfl, Nat.zero_le _, heap_alloc_new w _, Nat.le_refl _, by unfold maxLen; decide, rfl, rfl⟩⟩, Nat.le_refl _, below_one _⟩)
  have hsz : t.data.toList.length = t.size := by simp
  have HSZ := Lib.hid hsz
  clear hsz
  go_enter Tryz.func51, Tryz.ntmps51
  go_wp2_with fail
  refine HOF.out.mono ?_
  rintro e w' ⟨rfl, rfl⟩
  go_wp2_with fail
  go_loopw [4, 3] (fun vi vo wr => ∃ i g c : Nat, i ≤ t.size ∧ vi = .int .i64 i ∧ vo = .slice (some ⟨g, 0, none⟩) (1 + (i + 7) / 8) c ∧ Hid (GrowW w wr g c (fN t.data.toList i (1 + (i + 7) / 8)))) (fun vi _ _ => t.size - (intOf vi).toNat)
  case atStart => exact ⟨0, _, _, by omega, by go_num, rfl, HG0⟩
  case round =>
    obtain ⟨i, g, c, hi, rfl, rfl, HG⟩ := hrel
    clear HG0
    by_cases hil : i < t.size
    · have g2 : decide ((i : Int) < (t.size : Int)) = true := decide_eq_true (by omega)
      have g2' : decide (i < t.size) = true := decide_eq_true hil
      by_cases h8 : i % 8 = 0
      · have B8 : ((i : Int) % 8 == 0) = true := by rw [beq_iff_eq]; omega
        have hnn : 1 + (i + 7) / 8 = 1 + i / 8 := by omega
        rw [hnn] at HG ⊢
        have HFN := Lib.hid (fN_new (l := t.data.toList) h8)
        have hown : Hid ((wr.alloc (.cells #[.int .u64 0] 33)).ownsRow 0 33 1 (.slice (some ⟨g, 0, none⟩) (1 + i / 8) c) (1 + i / 8) (u64s (fN t.data.toList i (1 + i / 8)))) := Lib.hid (by
          have := HG.out.1
          unfold Words at this
          rw [fN_len] at this
          exact this.alloc _)
        have hsrc := Lib.hid (cell_one_new wr (.int .u64 0) 33)
        have hone : Hid (∀ u ∈ [Value.int .u64 0], u.oneCell' = true) := Lib.hid (by intro u hu; obtain rfl : u = .int .u64 0 := (by simpa using hu); rfl)
        clear hnn h8
        go_upto_region 6 with fail
        go_wp2_with (at_builtin; refine wpList_append_own_at _ rfl (.tmp 20) (.tmp 21) 28 rfl 0 33 i0 _ 1 8 Tryz.underlying28 hi0 hz0 hz1 hz2 rfl (by decide) _ _ _ rfl hown.out ⟨wr.heap.size, 0, none⟩ 1 1 [.int .u64 0] rfl rfl hsrc.out hone.out (by unfold maxLen; omega) (by omega) (Nat.zero_le _) ?_)
        intro v1 w4 hown1 hgr1 hnn1 hat1
        obtain ⟨g4, c4, rfl, hgw⟩ := HG.out.push (x := 0) (v' := v1) (o := .cells #[.int .u64 0] 33) (by rw [fN_len]; exact hown1) hnn1 (by rw [fN_len]; exact hgr1) (by rw [fN_len]; simpa using hat1)
        rw [HFN.out] at hgw
        rw [fN_len]
        clear hown1 hgr1 hnn1 hat1 hown hsrc hone HFN HG
        have hGW := hgw
        clear hgw
        rw [show 1 + i / 8 + 1 = 2 + i / 8 by omega]
        have hcl := hGW.1.cell (1 + i / 8) (by rw [fN_len]; omega)
        rw [fN_at (by omega)] at hcl
        have hfz := hGW.1.frozen (1 + i / 8)
        have HGW := Lib.hid hGW
        have HFA := Lib.hid (fN_add (l := t.data.toList) (i := i) (by rw [HSZ.out]; exact hil))
        have HLT := Lib.hid (fW_lt t.data.toList (i + 1) (1 + i / 8) (by rw [HSZ.out]; omega))
        have HAD := Lib.hid (fW_add (l := t.data.toList) (i := i) (by rw [HSZ.out]; exact hil))
        have hgl := hGW.1.lt
        clear hGW
        go_upto_region 9 with fail
        have HWC := Lib.hid (show IntKind.u64.wrap (t[i].toNat : Int) = (t[i].toNat : Int) by have := t[i].toNat_lt; rw [IntKind.wrap_u64]; omega)
        rw [HWC.out]
        have hc8 : t[i].toNat < 256 := t[i].toNat_lt
        have hti : (t.data.toList[i]'(by rw [HSZ.out]; exact hil)).toNat = t[i].toNat := by simp [ByteArray.getElem_eq_getElem_data]
        rw [hti] at HFA HAD
        clear hti HWC
        generalize t[i].toNat = c8 at *
        go_wp2_with fail
        go_loop [6, 5] (fun vk vx => ∃ kk : Nat, kk ≤ i % 8 ∧ vk = .int .i64 kk ∧ vx = .int .u64 ((c8 * 256 ^ kk : Nat) : Int)) (fun vk _ => i % 8 - (intOf vk).toNat)
        case atStart => exact ⟨0, by omega, by go_num, by rw [Nat.pow_zero, Nat.mul_one]⟩
        case round =>
          obtain ⟨kk, hkk, rfl, rfl⟩ := hrel
          by_cases hki : kk < i % 8
          · have g6 : decide ((kk : Int) < (i : Int) % 8) = true := decide_eq_true (by omega)
            have HMU := Lib.hid (mul_step c8 kk hc8 (show kk < 7 by omega))
            generalize c8 * 256 ^ kk = xk at *
            go_wp2_with fail
            go_round
            case rel => exact ⟨kk + 1, by omega, by go_num, by rw [HMU.out]⟩
            case measure => simp [intOf]; omega
          · have g6 : decide ((kk : Int) < (i : Int) % 8) = false := decide_eq_false (by omega)
            have hke : kk = i % 8 := by omega
            rw [← hke] at HFA HAD
            have hle := HLT.out
            rw [HAD.out] at hle
            clear hke hki HAD HLT
            generalize c8 * 256 ^ kk = xk at *
            generalize fW t.data.toList i (1 + i / 8) = fo at *
            have HSU := Lib.hid (show IntKind.u64.wrap ((fo : Int) + (xk : Int)) = ((fo + xk : Nat) : Int) by rw [IntKind.wrap_u64]; omega)
            have hix : ((2 + i / 8 : Nat) : Int) - 1 = ((1 + i / 8 : Nat) : Int) := by omega
            have HN : Hid (GrowW w (w4.setCell ⟨g4, 1 + i / 8, none⟩ (.int .u64 (IntKind.u64.wrap ((fo : Int) + (xk : Int))))) g4 c4 (fN t.data.toList (i + 1) (1 + (i + 1 + 7) / 8))) := Lib.hid (by
              have := HGW.out.set (1 + i / 8) (fo + xk)
              rw [HFA.out, ← HSU.out] at this
              rw [show 1 + (i + 1 + 7) / 8 = 2 + i / 8 by omega]
              exact this)
            clear HFA HSU hle
            go_wp2_with fail
            go_roundw
            case rel => exact ⟨i + 1, g4, c4, by omega, by go_num, by rw [show 1 + (i + 1 + 7) / 8 = 2 + i / 8 by omega], HN⟩
            case measure => simp [intOf]; omega
      · have B8 : ((i : Int) % 8 == 0) = false := by rw [beq_eq_false_iff_ne]; omega
        have hnn : 1 + (i + 7) / 8 = 2 + i / 8 := by omega
        rw [hnn] at HG ⊢
        have hGW := HG.out
        clear hnn h8
        have hcl := hGW.1.cell (1 + i / 8) (by rw [fN_len]; omega)
        rw [fN_at (by omega)] at hcl
        have hfz := hGW.1.frozen (1 + i / 8)
        have HGW := Lib.hid hGW
        have HFA := Lib.hid (fN_add (l := t.data.toList) (i := i) (by rw [HSZ.out]; exact hil))
        have HLT := Lib.hid (fW_lt t.data.toList (i + 1) (1 + i / 8) (by rw [HSZ.out]; omega))
        have HAD := Lib.hid (fW_add (l := t.data.toList) (i := i) (by rw [HSZ.out]; exact hil))
        have hgl := hGW.1.lt
        clear hGW
        go_upto_region 9 with fail
        have HWC := Lib.hid (show IntKind.u64.wrap (t[i].toNat : Int) = (t[i].toNat : Int) by have := t[i].toNat_lt; rw [IntKind.wrap_u64]; omega)
        rw [HWC.out]
        have hc8 : t[i].toNat < 256 := t[i].toNat_lt
        have hti : (t.data.toList[i]'(by rw [HSZ.out]; exact hil)).toNat = t[i].toNat := by simp [ByteArray.getElem_eq_getElem_data]
        rw [hti] at HFA HAD
        clear hti HWC
        generalize t[i].toNat = c8 at *
        go_wp2_with fail
        go_loop [6, 5] (fun vk vx => ∃ kk : Nat, kk ≤ i % 8 ∧ vk = .int .i64 kk ∧ vx = .int .u64 ((c8 * 256 ^ kk : Nat) : Int)) (fun vk _ => i % 8 - (intOf vk).toNat)
        case atStart => exact ⟨0, by omega, by go_num, by rw [Nat.pow_zero, Nat.mul_one]⟩
        case round =>
          obtain ⟨kk, hkk, rfl, rfl⟩ := hrel
          by_cases hki : kk < i % 8
          · have g6 : decide ((kk : Int) < (i : Int) % 8) = true := decide_eq_true (by omega)
            have HMU := Lib.hid (mul_step c8 kk hc8 (show kk < 7 by omega))
            generalize c8 * 256 ^ kk = xk at *
            go_wp2_with fail
            go_round
            case rel => exact ⟨kk + 1, by omega, by go_num, by rw [HMU.out]⟩
            case measure => simp [intOf]; omega
          · have g6 : decide ((kk : Int) < (i : Int) % 8) = false := decide_eq_false (by omega)
            have hke : kk = i % 8 := by omega
            rw [← hke] at HFA HAD
            have hle := HLT.out
            rw [HAD.out] at hle
            clear hke hki HAD HLT
            generalize c8 * 256 ^ kk = xk at *
            generalize fW t.data.toList i (1 + i / 8) = fo at *
            have HSU := Lib.hid (show IntKind.u64.wrap ((fo : Int) + (xk : Int)) = ((fo + xk : Nat) : Int) by rw [IntKind.wrap_u64]; omega)
            have hix : ((2 + i / 8 : Nat) : Int) - 1 = ((1 + i / 8 : Nat) : Int) := by omega
            have HN : Hid (GrowW w (wr.setCell ⟨g, 1 + i / 8, none⟩ (.int .u64 (IntKind.u64.wrap ((fo : Int) + (xk : Int))))) g c (fN t.data.toList (i + 1) (1 + (i + 1 + 7) / 8))) := Lib.hid (by
              have := HGW.out.set (1 + i / 8) (fo + xk)
              rw [HFA.out, ← HSU.out] at this
              rw [show 1 + (i + 1 + 7) / 8 = 2 + i / 8 by omega]
              exact this)
            clear HFA HSU hle
            go_wp2_with fail
            go_roundw
            case rel => exact ⟨i + 1, g, c, by omega, by go_num, by rw [show 1 + (i + 1 + 7) / 8 = 2 + i / 8 by omega], HN⟩
            case measure => simp [intOf]; omega
    · have g2 : decide ((i : Int) < (t.size : Int)) = false := decide_eq_false (by omega)
      have g2' : decide (i < t.size) = false := decide_eq_false hil
      have hie : i = t.size := by omega
      have HFI : Hid (FieldsIs (fN t.data.toList t.size (1 + (t.size + 7) / 8)) w (.returned (.slice (some ⟨g, 0, none⟩) (1 + (i + 7) / 8) c)) wr) := Lib.hid (by
        have := HG.out
        rw [hie] at this ⊢
        exact ⟨g, c, by rw [fN_len], this.1, this.2.1, this.2.2⟩)
      clear hie hil
      go_wp2_with fail
      go_ret
      exact HFI.out
theorem textW_lt (l : List UInt8) (j : Nat) (hl : l.length ≤ 1000000) : textW l j < 18446744073709551616 := by
  rw [← fW_text]; exact fW_lt l l.length j hl
theorem vals_set {L : List Ob} (h : Vals L) (a i x : Nat) (hx : x < 18446744073709551616) : Vals (setOb L a i x) := by
  induction L with
  | nil => exact h
  | cons o L ih =>
    unfold setOb
    split
    · intro o2 ho2 y hy
      rcases List.mem_cons.1 ho2 with rfl | ho2
      · rcases List.mem_or_eq_of_mem_set (show y ∈ o.fs.set i x from hy) with hy | rfl
        · exact h o (by simp) y hy
        · exact hx
      · exact h o2 (by simp [ho2]) y hy
    · intro o2 ho2 y hy
      rcases List.mem_cons.1 ho2 with rfl | ho2
      · exact h o2 (by simp) y hy
      · exact ih (fun o3 h3 => h o3 (by simp [h3])) o2 ho2 y hy
theorem vals_lay {L : List Ob} (h : Vals L) (l : List UInt8) (hl : l.length ≤ 1000000) (a i : Nat) : Vals (layTo L a (textW l) i) := by
  induction i with
  | zero => exact h
  | succ i ih => exact vals_set ih a i _ (textW_lt l i hl)
theorem vals_alloc {m : Nat} {x : SS} (hi : GInv m x.s) (hm : m ≤ 65536) (hv : Vals x.s.L) (kd n : Int) (xs : List Nat) : Vals (x.alloc m kd n xs).2.2.s.L := by
  have hput : ∀ z : SS, GInv m z.s → Vals z.s.L → Vals (z.put (z.s.alloc m kd n)).2.2.s.L := fun z hz hv => by
    have h1 : Vals (z.s.alloc m kd n).2.2.L := by
      rcases alloc_facts kd n hz.lies with ⟨e, he, ha⟩ | ⟨a, kk, nn, L', ha, _, _, _, _, hl, hn, hf, _⟩
      · have : z.s.alloc m kd n = (0, e, z.s) := by unfold GS.alloc; rw [ha, if_neg he]
        rw [this]; exact hv
      · have : z.s.alloc m kd n = ((a : Int), 0, z.s.laid L' a) := by unfold GS.alloc; rw [ha, if_pos rfl]; rfl
        rw [this]
        intro o ho y hy
        have ho : o ∈ L' := ho
        have h2 := find_of_mem hl ho
        rw [hf] at h2
        split at h2
        · obtain rfl := Option.some.inj h2
          have := List.eq_of_mem_replicate (show y ∈ List.replicate nn 1 from hy)
          rw [this]; decide
        · exact hv o (find_mem h2).1 y hy
    unfold SS.put
    split <;> exact h1
  have hfail : ∀ z : SS, GInv m z.s → (z.s.alloc m kd n).2.1 = 6 → (z.s.alloc m kd n).2.2 = z.s := fun z hz h6 => by
    rcases alloc_cases hz hm kd n with ⟨e, he, ha⟩ | ⟨a, t, _, ha⟩
    · rw [ha]
    · rw [ha] at h6; cases h6
  unfold SS.alloc
  split
  · rename_i h6
    have i2 : GInv m (x.second m kd n).s := GInv.done (hi.alloc kd n)
    have v2 : Vals (x.second m kd n).s.L := by
      show Vals (GS.done (x.s.alloc m kd n).2.2).L
      rw [hfail x hi h6]; exact vals_done hi hv
    split
    · rename_i h62
      have v3 : Vals ((x.second m kd n).third m kd n xs).s.L := by
        show Vals (GS.done (((x.second m kd n).s.alloc m kd n).2.2.begin xs).2).L
        rw [hfail _ i2 h62]; exact vals_done (i2.begin xs) (vals_begin v2 xs)
      exact hput _ (GInv.done ((i2.alloc kd n).begin xs)) v3
    · exact hput _ i2 v2
  · exact hput _ hi hv
def TextZ (pr k r m : Nat) (y : SS) (l : List UInt8) (xs : List Nat) (U : Nat → Prop) (w : World) (e : Ending) (w' : World) : Prop := ∃ q, textV m y l xs q ∧ ZTwo pr k r m q U w e w'
theorem RGo.wide {pr k r m : Nat} {y : SS} {U V : Nat → Prop} {w w' : World} (h : RGo pr k r m y U w w') (hV : ∀ b, U b → V b) : RGo pr k r m y V w w' := ⟨h.1.mono fun _ hb => hb.imp (hV _) id, h.2.mono hV⟩
/-- One field of a text is laid. -/
theorem z_step {pr k r m a kk nn i cy : Nat} {s : GS} {l : List UInt8} {U : Nat → Prop} {W : World} (h : RSt pr k r m ⟨s.put (layTo s.L a (textW l) i), cy⟩ W U) (hv : Vals s.L) (hl : l.length ≤ 1000000) (hfa : findOb s.L a = some (newOb a kk nn)) (hk : kk = 1) (hi : i < nn) (ha : a ≤ 65536) :
    Calls Tryz.prog 12 #[.pointer (some ⟨pr, 0, none⟩), .int .u64 ((2 * a : Nat) : Int), .int .i64 (i : Int), .int .u64 ((textW l i : Nat) : Int)] W (fun e w' => e = .returned (.int .i64 0) ∧ RGo pr k r m ⟨s.put (layTo s.L a (textW l) (i + 1)), cy⟩ U W w') := by
  have hvl : Vals (layTo s.L a (textW l) i) := vals_lay hv l hl a i
  obtain ⟨o, ho1, ho2, ho3, _⟩ := layTo_find (textW l) hfa i (by omega)
  have hstep : layTo s.L a (textW l) (i + 1) = setOb (layTo s.L a (textW l) i) a i (textW l i) := rfl
  rw [hstep]
  generalize layTo s.L a (textW l) i = L1 at *
  generalize textW l i = x at *
  have h9 := zs_Set pr k r m (SS.mk (s.put L1) cy) U W h hvl (2 * a) (by omega) (i : Int) x
  have hw : (s.put L1).write (addrW (2 * a) : Nat) (i : Int) x = (0, (s.put L1).put (setOb L1 a i x)) := by
    rw [addr_two ha]
    exact write_text x (s := s.put L1) ho1 (by omega) (by omega)
  have h9 : Calls Tryz.prog 12 #[.pointer (some ⟨pr, 0, none⟩), .int .u64 ((2 * a : Nat) : Int), .int .i64 (i : Int), .int .u64 (x : Int)] W (ZOne pr k r m (.int .i64 ((s.put L1).write (addrW (2 * a) : Nat) (i : Int) x).1) ⟨((s.put L1).write (addrW (2 * a) : Nat) (i : Int) x).2, cy⟩ U W) := h9
  rw [hw] at h9
  exact h9
set_option maxHeartbeats 4000000 in
set_option maxRecDepth 100000 in
theorem zs_Text (pr k r m : Nat) (y : SS) (U X : Nat → Prop) (w : World) (h : RSt pr k r m y w U) (hv : Vals y.s.L) (hc : y.cy ≤ 100000000) (t : ByteArray) (A : Option Addr) (nr c : Nat) (xs : List Nat) (hx : WordsAt w X A nr xs) (hX : ∀ b, X b → ¬ U b ∧ b < w.heap.size) (hn : nr ≤ 9223372036854775807) :
    Calls Tryz.prog 18 #[.pointer (some ⟨pr, 0, none⟩), .string t, .slice A nr c] w (TextZ pr k r m y t.data.toList xs U w) := by
  have hsl : t.data.toList.length = t.size := by simp
  by_cases hbig : 32760 < t.size
  · have g1 : decide (32760 < (t.size : Int)) = true := decide_eq_true (by omega)
    have HT : Hid (TextZ pr k r m y t.data.toList xs U w (.returned (.tuple #[.int .u64 0, .int .i64 2])) w) := Lib.hid ⟨(0, 2, y), by unfold textV; rw [if_pos (by omega)], rfl, RGo.stay h⟩
    clear h hx hX hsl hbig
    go_enter Tryz.func18, Tryz.ntmps18
    go_wp2_with fail
    go_ret2
    exact HT.out
  · have g1 : decide (32760 < (t.size : Int)) = false := decide_eq_false (by omega)
    obtain ⟨hi, hm⟩ := h.inv
    have HFL := Lib.hid (zs_Fields t (by omega) w)
    have HB := Lib.hid h.bound
    have HX := Lib.hid hx
    have HXU := Lib.hid hX
    have HSL := Lib.hid hsl
    clear h hx hX hsl
    go_enter Tryz.func18, Tryz.ntmps18
    go_wp2_with fail
    refine HFL.out.mono ?_
    rintro e w1 ⟨g, cg, rfl, hrow, hgw, hb1⟩
    have HR1 : Hid (RSt pr k r m y w1 (fun b => U b ∧ b < w.heap.size)) := Lib.hid (rst_keeps pr k r m y _ _ _ HB.out hb1.size fun b hl _ => hb1.block b hl)
    have HX1 : Hid (WordsAt w1 X A nr xs) := Lib.hid (HX.out.keep hb1.size fun b hl _ => hb1.block b hl)
    have HQ1 : Hid (∀ z w9, RGo pr k r m z (fun b => U b ∧ b < w.heap.size) w1 w9 → RGo pr k r m z U w w9) := Lib.hid (fun z w9 h9 => by
      have h0 := RGo.quiet HB.out hb1
      exact (h0.then ⟨h9.1.mono fun b hb => hb.elim (fun hu => .inl (.inl hu)) .inr, h9.2.mono fun b hu => .inl hu⟩).wide fun b hu => hu.1)
    have hal := zs_Alloc pr k r m y _ X w1 HR1.out hv hc 1 (fieldsOf t.size : Nat) A nr c xs HX1.out (fun b hb => ⟨fun hu => (HXU.out b hb).1 hu.1, Nat.lt_of_lt_of_le (HXU.out b hb).2 hb1.size⟩) hn
    rw [fN_len]
    have hfo : 1 + (t.size + 7) / 8 = fieldsOf t.size := rfl
    rw [hfo] at hrow ⊢
    have HROW := Lib.hid hrow
    have HV2 := Lib.hid (vals_alloc hi hm hv 1 (fieldsOf t.size : Nat) xs)
    have hgl := hrow.lt
    have hfs : fieldsOf t.size ≤ 4096 := by unfold fieldsOf; omega
    clear hrow hb1 hfo HFL
    rcases salloc_cases hi 1 (fieldsOf t.size : Nat) xs with ⟨e, y2, he, hi2, ha⟩ | ⟨a, kk, nn, y2, hk1, hn1, ham, hi2, hfa, ha⟩
    · have HT : Hid (∀ w9, RGo pr k r m y2 (fun b => U b ∧ b < w.heap.size) w1 w9 → TextZ pr k r m y t.data.toList xs U w (.returned (.tuple #[.int .u64 0, .int .i64 e])) w9) := Lib.hid (fun w9 h9 => ⟨(0, e, y2), by
        unfold textV
        rw [if_neg (by rw [HSL.out]; omega), HSL.out, ha, if_neg he], rfl, HQ1.out _ _ h9⟩)
      rw [ha] at hal
      have HAL := Lib.hid hal
      have B1 : (e != 0) = true := by rw [bne_iff_ne]; exact he
      clear hal ha he HB HQ1
      generalize fieldsOf t.size = fo at *
      go_wp2_with fail
      refine HAL.out.mono ?_
      rintro e1 w2 ⟨rfl, hs⟩
      have HE := Lib.hid (HT.out _ hs)
      clear hs
      go_wp2_with fail
      go_ret2
      exact HE.out
    · rw [ha] at hal
      have HAL := Lib.hid hal
      have ha65 : a ≤ 65536 := by omega
      obtain ⟨z, hz⟩ : ∃ z : Nat, z = 2 * a := ⟨_, rfl⟩
      have hz64 : z < 18446744073709551616 := by omega
      have HST : Hid (∀ (i : Nat) (W : World), i < fieldsOf t.size → RGo pr k r m ⟨y2.s.put (layTo y2.s.L a (textW t.data.toList) i), y2.cy⟩ (fun b => U b ∧ b < w.heap.size) w1 W → Calls Tryz.prog 12 #[.pointer (some ⟨pr, 0, none⟩), .int .u64 (z : Int), .int .i64 (i : Int), .int .u64 ((textW t.data.toList i : Nat) : Int)] W (fun e9 w9 => e9 = .returned (.int .i64 0) ∧ RGo pr k r m ⟨y2.s.put (layTo y2.s.L a (textW t.data.toList) (i + 1)), y2.cy⟩ (fun b => U b ∧ b < w.heap.size) w1 w9)) := Lib.hid (fun i W hif hW => by
        have hvv : Vals y2.s.L := by have := HV2.out; rw [ha] at this; exact this
        have h9 := z_step hW.1 hvv (by rw [HSL.out]; omega) hfa (by omega) (by omega) ha65
        rw [← hz] at h9
        exact h9.mono fun e9 w9 ⟨he, hs⟩ => ⟨he, hW.then hs⟩)
      have HKE : Hid (∀ (i : Nat) (W : World), i < fieldsOf t.size → RGo pr k r m ⟨y2.s.put (layTo y2.s.L a (textW t.data.toList) i), y2.cy⟩ (fun b => U b ∧ b < w.heap.size) w1 W → W.cell? ⟨g, i, none⟩ = some (.int .u64 ((textW t.data.toList i : Nat) : Int)) ∧ g < W.heap.size) := Lib.hid (fun i W hif hW => by
        have h1 := HROW.out.keep (hW.2.block g hgl fun hu => by have := hu.2; omega)
        have h2 := h1.cell i (by rw [fN_len]; exact hif)
        rw [fN_at hif, ← HSL.out, fW_text] at h2
        exact ⟨h2, h1.lt⟩)
      have HT : Hid (∀ w9, RGo pr k r m ⟨y2.s.put (layTo y2.s.L a (textW t.data.toList) (fieldsOf t.size)), y2.cy⟩ (fun b => U b ∧ b < w.heap.size) w1 w9 → TextZ pr k r m y t.data.toList xs U w (.returned (.tuple #[.int .u64 (z : Int), .int .i64 0])) w9) := Lib.hid (fun w9 h9 => ⟨(2 * a, 0, ⟨y2.s.put (layTo y2.s.L a (textW t.data.toList) (fieldsOf t.size)), y2.cy⟩), by
        unfold textV
        rw [if_neg (by rw [HSL.out]; omega), HSL.out, ha, if_pos rfl]
        obtain rfl : kk = 1 := by omega
        obtain rfl : nn = fieldsOf t.size := by omega
        exact ⟨a, y2, rfl, hfa, rfl⟩, by rw [hz], HQ1.out _ _ h9⟩)
      rw [← hz] at HAL
      clear hal ha HB HQ1 HV2 hfa hz hk1 hn1 HROW
      generalize fieldsOf t.size = fo at *
      go_wp2_with fail
      refine HAL.out.mono ?_
      rintro e1 w2 ⟨rfl, hs⟩
      have HS0 : Hid (RGo pr k r m ⟨y2.s.put (layTo y2.s.L a (textW t.data.toList) 0), y2.cy⟩ (fun b => U b ∧ b < w.heap.size) w1 w2) := Lib.hid hs
      clear hs HAL
      go_wp2_with fail
      go_loopw [11] (fun vi wr => ∃ i : Nat, i ≤ fo ∧ vi = .int .i64 i ∧ Hid (RGo pr k r m ⟨y2.s.put (layTo y2.s.L a (textW t.data.toList) i), y2.cy⟩ (fun b => U b ∧ b < w.heap.size) w1 wr)) (fun vi _ => fo - (intOf vi).toNat)
      case atStart => exact ⟨0, by omega, by go_num, HS0⟩
      case round =>
        obtain ⟨i, hif, rfl, HI⟩ := hrel
        clear HS0
        by_cases hil : i < fo
        · have g2 : decide ((i : Int) < (fo : Int)) = true := decide_eq_true (by omega)
          have g2' : decide (i < fo) = true := decide_eq_true hil
          obtain ⟨kx, hgz⟩ := HKE.out i wr hil HI.out
          have g3 : (i : Int) < (fo : Int) := by omega
          have HSE := Lib.hid (HST.out i wr hil HI.out)
          generalize textW t.data.toList i = xi at *
          go_wp2_with fail
          refine HSE.out.mono ?_
          rintro e2 w3 ⟨rfl, hs⟩
          have HN := Lib.hid hs
          clear hs
          go_wp2_with fail
          go_roundw
          case rel => exact ⟨i + 1, by omega, by go_num, HN⟩
          case measure => simp [intOf]; omega
        · have g2 : decide ((i : Int) < (fo : Int)) = false := decide_eq_false (by omega)
          have g2' : decide (i < fo) = false := decide_eq_false hil
          obtain rfl : i = fo := by omega
          have HE := Lib.hid (HT.out _ HI.out)
          go_wp2_with fail
          go_ret2
          exact HE.out
/-- Kinds and sizes as the document has them. -/
def KindsOk (L : List Ob) : Prop := ∀ o ∈ L, 1 ≤ o.kind ∧ o.fs.length ≤ 4096
theorem kind_pos {L : List Ob} (h : KindsOk L) (a : Nat) : ((hKind L (a : Nat)).1 = 0 ↔ findOb L a = none) := by
  cases hf : findOb L a with
  | none =>
    have : hKind L (a : Nat) = (0, 7) := by unfold hKind; rw [if_neg (by omega), Int.toNat_natCast, hf]
    rw [this]; simp
  | some o =>
    rw [hKind_at hf]
    have := (h o (find_mem hf).1).1
    constructor
    · intro h0
      have h0 : o.kind = 0 := h0
      omega
    · intro h0; cases h0
theorem zs_String (pr k r m : Nat) (y : SS) (U : Nat → Prop) (w : World) (h : RSt pr k r m y w U) (hv : Vals y.s.L) (hk : KindsOk y.s.L) (v : Nat) (hv64 : v < 18446744073709551616) :
    Calls Tryz.prog 54 #[.pointer (some ⟨pr, 0, none⟩), .int .u64 (v : Int)] w (StrIs (strV y.s.L (addrW v)) w) := by
  cases hf : findOb y.s.L (addrW v) with
  | none => exact zs_String_no pr k r m y U w h v hv64 (.inl hf)
  | some o =>
    have h1 := hk o (find_mem hf).1
    by_cases hk1 : o.kind = 1
    · exact zs_String_yes pr k r m y U w h hv v hv64 o hf hk1 h1.2
    · exact zs_String_no pr k r m y U w h v hv64 (.inr ⟨o, hf, hk1, by omega⟩)
theorem zs_Room (pr k r m : Nat) (y : SS) (U : Nat → Prop) (w : World) (h : RSt pr k r m y w U) :
    Calls Tryz.prog 52 #[.pointer (some ⟨r, 0, none⟩)] w (GapIs (roomOf m y.s.L) (longOf m y.s.L) w) := by
  obtain ⟨hi, hm⟩ := h.inv
  obtain ⟨S, hr⟩ := h.heapIn
  exact ref_Room r S m y.s.L w hr hi.lies hm (lies_len hi.lies hm)
/-- A world of the round: what the region reads stands. -/
def HeldX (M : World → Prop) (rb i bx : Nat) (v a b : Value) (w W : World) : Prop :=
  M W ∧ Below w.heap.size w W ∧ W.cell? ⟨rb, i, none⟩ = some v ∧ W.cell? ⟨bx, 1, none⟩ = some a ∧ W.cell? ⟨bx, 2, none⟩ = some b ∧ rb < W.heap.size ∧ bx < W.heap.size
theorem HeldX.next {M : World → Prop} {rb i bx : Nat} {v a b : Value} {w W W' : World} (hM : ∀ W W', M W → Below W.heap.size W W' → M W') (h : HeldX M rb i bx v a b w W) (hb : Below W.heap.size W W') : HeldX M rb i bx v a b w W' := by
  obtain ⟨h1, h2, h3, h4, h5, h6, h7⟩ := h
  exact ⟨hM _ _ h1 hb, h2.trans (hb.mono h2.size), (hb.cell (p := ⟨rb, i, none⟩) h6).trans h3, (hb.cell (p := ⟨bx, 1, none⟩) h7).trans h4, (hb.cell (p := ⟨bx, 2, none⟩) h7).trans h5, Nat.lt_of_lt_of_le h6 hb.size, Nat.lt_of_lt_of_le h7 hb.size⟩
theorem kind_none {L : List Ob} {a : Nat} (hf : findOb L a = none) : (hKind L (a : Nat)).1 = 0 ∧ (hSize L (a : Nat)).1 = 0 := by
  constructor
  · unfold hKind; rw [if_neg (by omega), Int.toNat_natCast, hf]
  · unfold hSize; rw [if_neg (by omega), Int.toNat_natCast, hf]
set_option maxHeartbeats 8000000 in
set_option maxRecDepth 100000 in
theorem asks_any {w0 : World} {p g q m rb pr k r : Nat} {x : SS} {regs : List Nat} {T : Nat → Prop} (w : World) (h : MidX (RSt pr k r m x) w0 p g q m rb x regs w T) (hko : KindsOk x.s.L) :
    Calls Tryz.prog 19 #[.pointer (some ⟨p, 0, none⟩), .pointer (some ⟨pr, 0, none⟩), .slice (some ⟨rb, 0, none⟩) 8 8] w (YesMade true w) := by
  have H := Lib.hid h
  have HV := Lib.hid h.valsOf
  have HK := Lib.hid hko
  obtain ⟨c0, q1, q2, q3, c4⟩ := h.side.head
  have HRM := Lib.hid (zs_Room pr k r m x T w h.side)
  have HCY := Lib.hid (fun (W : World) (hW : MidX (RSt pr k r m x) w0 p g q m rb x regs W T) => st_Cycles (Beside w0 rb T) p g q m x W hW.store)
  have HRO := Lib.hid (fun (W : World) (hW : MidX (RSt pr k r m x) w0 p g q m rb x regs W T) => st_Room (Beside w0 rb T) p g q m x W hW.store)
  have HNX := Lib.hid (fun (W W' : World) (hW : MidX (RSt pr k r m x) w0 p g q m rb x regs W T) (hb : Below W.heap.size W W') => hW.next (rst_keeps pr k r m x) hb)
  have HC1 := Lib.hid (fun (W : World) (hW : MidX (RSt pr k r m x) w0 p g q m rb x regs W T) => hW.side.head.2.1)
  clear h hko q1 q2 q3
  go_enter Tryz.func19, Tryz.ntmps19
  go_wp2_with fail
  refine HRM.out.mono ?_
  rintro e w1 ⟨rfl, hb1⟩
  have HM1 := Lib.hid (HNX.out _ _ H.out hb1)
  have HB1 := Lib.hid hb1
  clear hb1 c0 c4 HRM
  have c1 := HC1.out _ HM1.out
  generalize roomOf m x.s.L = rm at *
  generalize longOf m x.s.L = lg at *
  go_upto_region 2 with fail
  go_region_held3 (fun W => W.cell? ⟨pr, 1, none⟩ = some (.int .i64 (x.cy : Int))) (go_keep)
    (first | (go_at_call 25; refine (HCY.out _ ?_).mono ?_; exact HNX.out w1 _ HM1.out (Below.refl w1.heap.size w1).drew; rintro e w' ⟨rfl, rfl⟩) | (go_at_call 22; refine (HRO.out _ ?_).mono ?_; exact HNX.out w1 _ HM1.out (Below.refl w1.heap.size w1).drew; rintro e w2 ⟨rfl, hb2⟩; have HB2 := Lib.hid hb2; clear hb2; have d1 := HC1.out _ (HNX.out _ _ (HNX.out w1 _ HM1.out (Below.refl w1.heap.size w1).drew) HB2.out)))
  all_goals
    have hd := (Below.refl w1.heap.size w1).drew
    have hb12 := hd.trans (HB2.out.mono hd.size)
    have HM2 := Lib.hid (HNX.out _ _ HM1.out hb12)
    have HBW := Lib.hid (HB1.out.trans (hb12.mono HB1.out.size))
    have HST := Lib.hid (fun (v : Nat) (hv : v < 18446744073709551616) (W : World) (hW : MidX (RSt pr k r m x) w0 p g q m rb x regs W T) => st_String (Beside w0 rb T) p g q m x W hW.store v hv)
    have HZS := Lib.hid (fun (v : Nat) (hv : v < 18446744073709551616) (W : World) (hW : MidX (RSt pr k r m x) w0 p g q m rb x regs W T) => zs_String pr k r m x T W hW.side HV.out HK.out v hv)
    have HKD := Lib.hid (fun (v : Nat) (hv : v < 18446744073709551616) (W : World) (hW : MidX (RSt pr k r m x) w0 p g q m rb x regs W T) => st_Kind (Beside w0 rb T) p g q m x W hW.store v hv)
    have HSZ := Lib.hid (fun (v : Nat) (hv : v < 18446744073709551616) (W : World) (hW : MidX (RSt pr k r m x) w0 p g q m rb x regs W T) => st_Size (Beside w0 rb T) p g q m x W hW.store v hv)
    clear hd hb12 HM1 HB1 HB2 c1 d1 HRO HCY H
    go_wp2_with fail
    go_loopw [42] (fun vi wr => ∃ i : Nat, i ≤ 8 ∧ vi = .int .i64 i ∧ Hid (MidX (RSt pr k r m x) w0 p g q m rb x regs wr T ∧ Below w.heap.size w wr)) (fun vi _ => 8 - (intOf vi).toNat)
    case atStart => exact ⟨0, by omega, by go_num, Lib.hid ⟨HM2.out, HBW.out⟩⟩
    case round =>
      obtain ⟨i, hi, rfl, HI⟩ := hrel
      clear HM2 HBW
      by_cases hi8 : i < 8
      · have g1 : decide ((i : Int) < 8) = true := decide_eq_true (by omega)
        have g3 : (i : Int) < 8 := by omega
        have g4 : (0 : Int) ≤ (i : Int) := by omega
        have hx := HI.out.1.mem i hi8
        obtain ⟨ka, kaf⟩ := HI.out.1.at_ i hi8
        cases hf : findOb x.s.L (addrW (regs.getD i 0)) with
        | none =>
          have HOB := Lib.hid (zs_Object_none pr k r m x T wr HI.out.1.side (regs.getD i 0) hx hf)
          have HE := Lib.hid (kind_none hf)
          clear hf
          go_wp2_with fail
          refine HOB.out.mono ?_
          rintro e w3 ⟨rfl, hb3⟩
          have HM3 := Lib.hid (HNX.out _ _ HI.out.1 hb3)
          have hb3b := hb3.trans ((below_one (w := w3) (.cells #[.int .i64 0, .int .i64 0, .slice none 0 0] 53)).mono hb3.size)
          have HM4 := Lib.hid (HNX.out _ _ HI.out.1 hb3b)
          have hbx := heap_alloc_new w3 (.cells #[.int .i64 0, .int .i64 0, .slice none 0 0] 53)
          have HB4 := Lib.hid (HI.out.2.trans (hb3b.mono HI.out.2.size))
          obtain ⟨ka, kaf⟩ := HM4.out.at_ i hi8
          clear hb3 hb3b
          go_upto_region 8 with fail
          generalize w3.alloc (.cells #[.int .i64 0, .int .i64 0, .slice none 0 0] 53) = w4 at *
          generalize w3.heap.size = bx at *
          generalize hxv : regs.getD i 0 = v at *
          have HSS := Lib.hid (HST.out v hx w4 HM4.out)
          clear hxv
          go_wp2_with fail
          refine HSS.out.mono ?_
          rintro e w5 ⟨rfl, hb5⟩
          have HM5 := Lib.hid (HNX.out _ _ HM4.out hb5)
          have HB5 := Lib.hid (HB4.out.trans (hb5.mono HB4.out.size))
          have hbx5 := (hb5.block bx (lt_of_heap hbx)).trans hbx
          have HZZ := Lib.hid (HZS.out v hx w5 HM5.out)
          have ka5 := (hb5.cell (p := ⟨rb, i, none⟩) HM4.out.rbl).trans ka
          clear hb5 HSS hbx ka kaf
          go_wp2_with fail
          refine HZZ.out.mono ?_
          rintro e w6 ⟨rfl, hb6⟩
          have HM6 := Lib.hid (HNX.out _ _ HM5.out hb6)
          have HB6 := Lib.hid (HB5.out.trans (hb6.mono HB5.out.size))
          have hbx6 := (hb6.block bx (lt_of_heap hbx5)).trans hbx5
          have ka6 := (hb6.cell (p := ⟨rb, i, none⟩) HM5.out.rbl).trans ka5
          have p1 : w6.cell? ⟨bx, 1, none⟩ = some (.int .i64 0) := by rw [Lib.cell_of_heap hbx6]; rfl
          have p2 : w6.cell? ⟨bx, 2, none⟩ = some (.slice none 0 0) := by rw [Lib.cell_of_heap hbx6]; rfl
          have hxl := lt_of_heap hbx6
          have hrl := HM6.out.rbl
          clear hb6 HZZ hbx5 hbx6 ka5
          generalize strOf (strV x.s.L (addrW v)).1 = sv at *
          generalize (strV x.s.L (addrW v)).2 = ev at *
          have HX := Lib.hid (show HeldX (fun W => MidX (RSt pr k r m x) w0 p g q m rb x regs W T) rb i bx (.int .u64 (v : Int)) (.int .i64 0) (.slice none 0 0) w w6 from ⟨HM6.out, HB6.out, ka6, p1, p2, hrl, hxl⟩)
          have HXN := Lib.hid (fun (W W' : World) (h : HeldX (fun W => MidX (RSt pr k r m x) w0 p g q m rb x regs W T) rb i bx (.int .u64 (v : Int)) (.int .i64 0) (.slice none 0 0) w W) (hb : Below W.heap.size W W') => h.next HNX.out hb)
          have HKV : Hid (∀ W : World, MidX (RSt pr k r m x) w0 p g q m rb x regs W T → Calls Tryz.prog 26 #[.pointer (some ⟨p, 0, none⟩), .int .u64 (v : Int)] W (SLook (.int .i64 0) W)) := Lib.hid (fun W hW => by have := HKD.out v hx W hW; rw [HE.out.1] at this; exact this)
          have HZV : Hid (∀ W : World, MidX (RSt pr k r m x) w0 p g q m rb x regs W T → Calls Tryz.prog 27 #[.pointer (some ⟨p, 0, none⟩), .int .u64 (v : Int)] W (SLook (.int .i64 0) W)) := Lib.hid (fun W hW => by have := HSZ.out v hx W hW; rw [HE.out.2] at this; exact this)
          clear HE HKD HSZ HST HZS HOB HM3 HM4 HB4 HM5 HB5 HM6 HB6 HI
          go_upto_region 10 with fail
          go_region_held3 (fun W => W.cell? ⟨rb, i, none⟩ = some (.int .u64 (v : Int)) ∧ W.cell? ⟨bx, 1, none⟩ = some (.int .i64 0) ∧ W.cell? ⟨bx, 2, none⟩ = some ((.slice none 0 0))) (go_keep)
            (first
              | (go_at_call 27; refine (HZV.out _ ?_).mono ?_; (first | exact HX7.out.1 | exact (HXN.out w7 _ HX7.out (Below.refl w7.heap.size w7).drew).1); rintro e w8 ⟨rfl, hb8⟩; have HX8 := (by first | exact Lib.hid (HXN.out _ _ HX7.out hb8) | exact Lib.hid (HXN.out _ _ (HXN.out w7 _ HX7.out (Below.refl w7.heap.size w7).drew) hb8)); clear hb8; obtain ⟨_, _, r0, r1, r2, _, _⟩ := HX8.out)
              | (go_at_call 26; refine (HKV.out _ ?_).mono ?_; (first | exact HX8.out.1 | exact (HXN.out w8 _ HX8.out (Below.refl w8.heap.size w8).drew).1); rintro e w9 ⟨rfl, hb9⟩; have HX9 := (by first | exact Lib.hid (HXN.out _ _ HX8.out hb9) | exact Lib.hid (HXN.out _ _ (HXN.out w8 _ HX8.out (Below.refl w8.heap.size w8).drew) hb9)); clear hb9; obtain ⟨_, _, s0, s1, s2, _, _⟩ := HX9.out)
              | (go_at_call 26; refine (HKV.out _ ?_).mono ?_; (first | exact HX.out.1 | exact (HXN.out w6 _ HX.out (Below.refl w6.heap.size w6).drew).1); rintro e w7 ⟨rfl, hb7⟩; have HX7 := (by first | exact Lib.hid (HXN.out _ _ HX.out hb7) | exact Lib.hid (HXN.out _ _ (HXN.out w6 _ HX.out (Below.refl w6.heap.size w6).drew) hb7)); clear hb7; obtain ⟨_, _, q0, q1, q2, _, _⟩ := HX7.out))
          all_goals
            go_wp2_with fail
            go_roundw
            case rel => exact ⟨i + 1, by omega, by go_num, Lib.hid ⟨HX9.out.1, HX9.out.2.1⟩⟩
            case measure => simp [intOf]; omega

        | some o =>
          have HOB := Lib.hid (zs_Object_some pr k r m x T wr HI.out.1.side (regs.getD i 0) hx o hf)
          have HE : Hid ((hKind x.s.L (addrW (regs.getD i 0) : Nat)).1 = o.kind ∧ (hSize x.s.L (addrW (regs.getD i 0) : Nat)).1 = o.fs.length) := Lib.hid ⟨by rw [hKind_at hf], by rw [hSize_at hf]⟩
          have hk1 := (HK.out o (find_mem hf).1).1
          clear hf
          go_wp2_with fail
          refine HOB.out.mono ?_
          rintro e w3 ⟨F, cf, rfl, hb3, hfx⟩
          clear hfx
          have HM3 := Lib.hid (HNX.out _ _ HI.out.1 hb3)
          have hb3b := hb3.trans ((below_one (w := w3) (.cells #[.int .i64 (o.at_ : Int), .int .i64 (o.kind : Int), .slice F o.fs.length cf] 53)).mono hb3.size)
          have HM4 := Lib.hid (HNX.out _ _ HI.out.1 hb3b)
          have hbx := heap_alloc_new w3 (.cells #[.int .i64 (o.at_ : Int), .int .i64 (o.kind : Int), .slice F o.fs.length cf] 53)
          have HB4 := Lib.hid (HI.out.2.trans (hb3b.mono HI.out.2.size))
          obtain ⟨ka, kaf⟩ := HM4.out.at_ i hi8
          clear hb3 hb3b
          go_upto_region 8 with fail
          generalize w3.alloc (.cells #[.int .i64 (o.at_ : Int), .int .i64 (o.kind : Int), .slice F o.fs.length cf] 53) = w4 at *
          generalize w3.heap.size = bx at *
          generalize hxv : regs.getD i 0 = v at *
          have HSS := Lib.hid (HST.out v hx w4 HM4.out)
          clear hxv
          go_wp2_with fail
          refine HSS.out.mono ?_
          rintro e w5 ⟨rfl, hb5⟩
          have HM5 := Lib.hid (HNX.out _ _ HM4.out hb5)
          have HB5 := Lib.hid (HB4.out.trans (hb5.mono HB4.out.size))
          have hbx5 := (hb5.block bx (lt_of_heap hbx)).trans hbx
          have HZZ := Lib.hid (HZS.out v hx w5 HM5.out)
          have ka5 := (hb5.cell (p := ⟨rb, i, none⟩) HM4.out.rbl).trans ka
          clear hb5 HSS hbx ka kaf
          go_wp2_with fail
          refine HZZ.out.mono ?_
          rintro e w6 ⟨rfl, hb6⟩
          have HM6 := Lib.hid (HNX.out _ _ HM5.out hb6)
          have HB6 := Lib.hid (HB5.out.trans (hb6.mono HB5.out.size))
          have hbx6 := (hb6.block bx (lt_of_heap hbx5)).trans hbx5
          have ka6 := (hb6.cell (p := ⟨rb, i, none⟩) HM5.out.rbl).trans ka5
          have p1 : w6.cell? ⟨bx, 1, none⟩ = some (.int .i64 (o.kind : Int)) := by rw [Lib.cell_of_heap hbx6]; rfl
          have p2 : w6.cell? ⟨bx, 2, none⟩ = some (.slice F o.fs.length cf) := by rw [Lib.cell_of_heap hbx6]; rfl
          have hxl := lt_of_heap hbx6
          have hrl := HM6.out.rbl
          clear hb6 HZZ hbx5 hbx6 ka5
          generalize strOf (strV x.s.L (addrW v)).1 = sv at *
          generalize (strV x.s.L (addrW v)).2 = ev at *
          have HX := Lib.hid (show HeldX (fun W => MidX (RSt pr k r m x) w0 p g q m rb x regs W T) rb i bx (.int .u64 (v : Int)) (.int .i64 (o.kind : Int)) (.slice F o.fs.length cf) w w6 from ⟨HM6.out, HB6.out, ka6, p1, p2, hrl, hxl⟩)
          have HXN := Lib.hid (fun (W W' : World) (h : HeldX (fun W => MidX (RSt pr k r m x) w0 p g q m rb x regs W T) rb i bx (.int .u64 (v : Int)) (.int .i64 (o.kind : Int)) (.slice F o.fs.length cf) w W) (hb : Below W.heap.size W W') => h.next HNX.out hb)
          have HKV : Hid (∀ W : World, MidX (RSt pr k r m x) w0 p g q m rb x regs W T → Calls Tryz.prog 26 #[.pointer (some ⟨p, 0, none⟩), .int .u64 (v : Int)] W (SLook (.int .i64 (o.kind : Int)) W)) := Lib.hid (fun W hW => by have := HKD.out v hx W hW; rw [HE.out.1] at this; exact this)
          have HZV : Hid (∀ W : World, MidX (RSt pr k r m x) w0 p g q m rb x regs W T → Calls Tryz.prog 27 #[.pointer (some ⟨p, 0, none⟩), .int .u64 (v : Int)] W (SLook (.int .i64 (o.fs.length : Int)) W)) := Lib.hid (fun W hW => by have := HSZ.out v hx W hW; rw [HE.out.2] at this; exact this)
          clear HE HKD HSZ HST HZS HOB HM3 HM4 HB4 HM5 HB5 HM6 HB6 HI
          have B4 : decide ((0 : Int) < (o.kind : Int)) = true := decide_eq_true (by omega)
          have B5 : decide (0 < o.kind) = true := decide_eq_true (by omega)
          have B6 : 0 < o.kind := by omega
          have B7 : (0 : Int) < (o.kind : Int) := by omega
          go_upto_region 10 with fail
          go_region_held3 (fun W => W.cell? ⟨rb, i, none⟩ = some (.int .u64 (v : Int)) ∧ W.cell? ⟨bx, 1, none⟩ = some (.int .i64 (o.kind : Int)) ∧ W.cell? ⟨bx, 2, none⟩ = some ((.slice F o.fs.length cf))) (go_keep)
            (first
              | (go_at_call 27; refine (HZV.out _ ?_).mono ?_; (first | exact HX7.out.1 | exact (HXN.out w7 _ HX7.out (Below.refl w7.heap.size w7).drew).1); rintro e w8 ⟨rfl, hb8⟩; have HX8 := (by first | exact Lib.hid (HXN.out _ _ HX7.out hb8) | exact Lib.hid (HXN.out _ _ (HXN.out w7 _ HX7.out (Below.refl w7.heap.size w7).drew) hb8)); clear hb8; obtain ⟨_, _, r0, r1, r2, _, _⟩ := HX8.out)
              | (go_at_call 26; refine (HKV.out _ ?_).mono ?_; (first | exact HX8.out.1 | exact (HXN.out w8 _ HX8.out (Below.refl w8.heap.size w8).drew).1); rintro e w9 ⟨rfl, hb9⟩; have HX9 := (by first | exact Lib.hid (HXN.out _ _ HX8.out hb9) | exact Lib.hid (HXN.out _ _ (HXN.out w8 _ HX8.out (Below.refl w8.heap.size w8).drew) hb9)); clear hb9; obtain ⟨_, _, s0, s1, s2, _, _⟩ := HX9.out)
              | (go_at_call 26; refine (HKV.out _ ?_).mono ?_; (first | exact HX.out.1 | exact (HXN.out w6 _ HX.out (Below.refl w6.heap.size w6).drew).1); rintro e w7 ⟨rfl, hb7⟩; have HX7 := (by first | exact Lib.hid (HXN.out _ _ HX.out hb7) | exact Lib.hid (HXN.out _ _ (HXN.out w6 _ HX.out (Below.refl w6.heap.size w6).drew) hb7)); clear hb7; obtain ⟨_, _, q0, q1, q2, _, _⟩ := HX7.out))
          all_goals
            go_wp2_with fail
            go_roundw
            case rel => exact ⟨i + 1, by omega, by go_num, Lib.hid ⟨HX9.out.1, HX9.out.2.1⟩⟩
            case measure => simp [intOf]; omega

      · have g1 : decide ((i : Int) < 8) = false := decide_eq_false (by omega)
        go_wp2_with fail
        go_ret
        exact ⟨rfl, HI.out.2⟩
theorem hAlloc_small {m : Nat} {L L' : List Ob} {k n a : Int} (h : hAlloc m L k n = (a, 0, L')) : n ≤ 4096 := by
  unfold hAlloc at h
  split at h
  · exact absurd (show (8 : Int) = 0 from congrArg (fun x => x.2.1) h) (by decide)
  · split at h
    · exact absurd (show (2 : Int) = 0 from congrArg (fun x => x.2.1) h) (by decide)
    · omega
theorem kinds_sub {m : Nat} {s t : GS} (hi : GInv m t) (hv : KindsOk s.L) (hf : ∀ a o, findOb t.L a = some o → findOb s.L a = some o) : KindsOk t.L := fun o ho => by
  have h1 := find_of_mem hi.lies ho
  exact hv o (find_mem (hf _ _ h1)).1
theorem kinds_run {m : Nat} {s : GS} (hi : GInv m s) (hv : KindsOk s.L) (K : Nat) : KindsOk (s.run K).L := by
  induction K with
  | zero => exact hv
  | succ K ih => exact kinds_sub ((hi.run K).step) ih fun _ _ ho => step_find (hi.run K) ho
theorem kinds_done {m : Nat} {s : GS} (hi : GInv m s) (hv : KindsOk s.L) : KindsOk s.done.L := by
  unfold GS.done
  split
  · exact kinds_run hi hv _
  · exact hv
theorem kinds_begin {s : GS} (hv : KindsOk s.L) (xs : List Nat) : KindsOk (s.begin xs).2.L := by rw [begin_L]; exact hv
theorem kinds_set {L : List Ob} (h : KindsOk L) (a i x : Nat) : KindsOk (setOb L a i x) := by
  induction L with
  | nil => exact h
  | cons o L ih =>
    unfold setOb
    split
    · intro o2 ho2
      rcases List.mem_cons.1 ho2 with rfl | ho2
      · have := h o (by simp)
        exact ⟨this.1, by simpa [Ob.put] using this.2⟩
      · exact h o2 (by simp [ho2])
    · intro o2 ho2
      rcases List.mem_cons.1 ho2 with rfl | ho2
      · exact h o2 (by simp)
      · exact ih (fun o3 h3 => h o3 (by simp [h3])) o2 ho2
theorem kinds_lay {L : List Ob} (h : KindsOk L) (f : Nat → Nat) (a i : Nat) : KindsOk (layTo L a f i) := by
  induction i with
  | zero => exact h
  | succ i ih => exact kinds_set ih a i _
theorem kinds_alloc {m : Nat} {x : SS} (hi : GInv m x.s) (hm : m ≤ 65536) (hv : KindsOk x.s.L) (kd n : Int) (xs : List Nat) : KindsOk (x.alloc m kd n xs).2.2.s.L := by
  have hput : ∀ z : SS, GInv m z.s → KindsOk z.s.L → KindsOk (z.put (z.s.alloc m kd n)).2.2.s.L := fun z hz hv => by
    have h1 : KindsOk (z.s.alloc m kd n).2.2.L := by
      rcases alloc_facts kd n hz.lies with ⟨e, he, ha⟩ | ⟨a, kk, nn, L', ha, _, h2, h3, _, hl, hn, hf, _⟩
      · have : z.s.alloc m kd n = (0, e, z.s) := by unfold GS.alloc; rw [ha, if_neg he]
        rw [this]; exact hv
      · have hsm := hAlloc_small ha
        have : z.s.alloc m kd n = ((a : Int), 0, z.s.laid L' a) := by unfold GS.alloc; rw [ha, if_pos rfl]; rfl
        rw [this]
        intro o ho
        have ho : o ∈ L' := ho
        have h4 := find_of_mem hl ho
        rw [hf] at h4
        split at h4
        · obtain rfl := Option.some.inj h4
          exact ⟨h3, by show (List.replicate nn 1).length ≤ 4096; rw [List.length_replicate]; omega⟩
        · exact hv o (find_mem h4).1
    unfold SS.put
    split <;> exact h1
  have hfail : ∀ z : SS, GInv m z.s → (z.s.alloc m kd n).2.1 = 6 → (z.s.alloc m kd n).2.2 = z.s := fun z hz h6 => by
    rcases alloc_cases hz hm kd n with ⟨e, he, ha⟩ | ⟨a, t, _, ha⟩
    · rw [ha]
    · rw [ha] at h6; cases h6
  unfold SS.alloc
  split
  · rename_i h6
    have i2 : GInv m (x.second m kd n).s := GInv.done (hi.alloc kd n)
    have v2 : KindsOk (x.second m kd n).s.L := by
      show KindsOk (GS.done (x.s.alloc m kd n).2.2).L
      rw [hfail x hi h6]; exact kinds_done hi hv
    split
    · rename_i h62
      have v3 : KindsOk ((x.second m kd n).third m kd n xs).s.L := by
        show KindsOk (GS.done (((x.second m kd n).s.alloc m kd n).2.2.begin xs).2).L
        rw [hfail _ i2 h62]; exact kinds_done (i2.begin xs) (kinds_begin v2 xs)
      exact hput _ (GInv.done ((i2.alloc kd n).begin xs)) v3
    · exact hput _ i2 v2
  · exact hput _ hi hv
theorem kinds_write {s : GS} (hv : KindsOk s.L) (a i : Int) (x : Nat) : KindsOk (s.write a i x).2.L := by
  unfold GS.write
  split
  · show KindsOk (hSet s.L a i x).2
    unfold hSet
    repeat' split
    all_goals first | exact hv | exact kinds_set hv _ _ _
  · exact hv
theorem kinds_pick {m : Nat} {x : SS} (hi : GInv m x.s) (hv : KindsOk x.s.L) (xs : List Nat) : KindsOk (x.pick xs).s.L := by
  unfold SS.pick
  split
  · exact kinds_begin hv xs
  · exact kinds_sub hi.step hv fun _ _ ho => step_find hi ho
/-- What a text's laying leaves. -/
theorem textV_facts {m : Nat} {x : SS} {l : List UInt8} {xs : List Nat} {r : Nat × Int × SS} (h : textV m x l xs r) (hi : GInv m x.s) (hm : m ≤ 65536) (hv : KindsOk x.s.L) : KindsOk r.2.2.s.L ∧ r.2.2.cy ≤ x.cy + 2 ∧ r.1 < 18446744073709551616 := by
  unfold textV at h
  have h1 := kinds_alloc hi hm hv 1 (fieldsOf l.length : Nat) xs
  have h2 := alloc_cy m x 1 (fieldsOf l.length : Nat) xs
  split at h
  · subst h; exact ⟨hv, by show x.cy ≤ _; omega, by show 0 < 18446744073709551616; decide⟩
  · split at h
    · obtain ⟨a, y, he, hf, rfl⟩ := h
      rw [he] at h1 h2
      refine ⟨kinds_lay h1 _ a _, h2, ?_⟩
      show 2 * a < _
      rcases salloc_cases hi 1 (fieldsOf l.length : Nat) xs with ⟨e, y2, hne, _, ha⟩ | ⟨b, kk, nn, y2, _, _, hlt, _, _, ha⟩
      · rw [he] at ha
        exact absurd (congrArg (fun z => z.2.1) ha).symm hne
      · rw [he] at ha
        have := congrArg (fun z => z.1) ha
        simp only at this
        omega
    · rename_i hne
      subst h
      refine ⟨h1, h2, ?_⟩
      rcases salloc_cases hi 1 (fieldsOf l.length : Nat) xs with ⟨e, y2, _, _, ha⟩ | ⟨b, kk, nn, y2, _, _, hlt, _, _, ha⟩
      · rw [ha]; show 0 < 18446744073709551616; decide
      · rw [ha] at hne; exact absurd rfl hne
/-- A text is laid in one way. -/
theorem textV_one {m : Nat} {x : SS} {l : List UInt8} {xs : List Nat} {r q : Nat × Int × SS} (h : textV m x l xs r) (k : textV m x l xs q) : r = q := by
  unfold textV at h k
  split at h
  · rename_i h1
    rw [if_pos h1] at k
    rw [h, k]
  · rename_i h1
    rw [if_neg h1] at k
    split at h
    · rename_i h2
      rw [if_pos h2] at k
      obtain ⟨a, y, he, _, rfl⟩ := h
      obtain ⟨b, z, he2, _, rfl⟩ := k
      rw [he] at he2
      obtain ⟨hab, hyz⟩ := Prod.mk.inj he2
      obtain ⟨_, rfl⟩ := Prod.mk.inj hyz
      obtain rfl : a = b := by omega
      rfl
    · rename_i h2
      rw [if_neg h2] at k
      rw [h, k]
end Go.Proofs.YtdkbgdjkdalalaaGreatDoor
