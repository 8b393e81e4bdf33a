/-
  The law ParseBinds: the walk.
-/
import Derived.Test.YtecpldnjpapalaaDoorPBoth
import Derived.Test.YtecpldnjpapalaaDoorGBin
namespace Go.Proofs.YtecpldnjpapalaaDoor
open Go.RowKit
attribute [local go_sem] Oper.semAt_some
def bS (i : Nat) : ByteArray := ⟨(bsign i).toArray⟩
def toLeft (i k : Nat) : Prop := blev k < blev i ∨ blev i = blev k ∧ 4 < blev i
theorem plain_list (a b c : ByteArray) (i k : Nat) : (((⟨#[40]⟩ : ByteArray) ++ a ++ ⟨#[41]⟩) ++ ⟨#[32]⟩ ++ bS i ++ ⟨#[32]⟩ ++ ((⟨#[40]⟩ : ByteArray) ++ b ++ ⟨#[41]⟩) ++ ⟨#[32]⟩ ++ bS k ++ ⟨#[32]⟩ ++ ((⟨#[40]⟩ : ByteArray) ++ c ++ ⟨#[41]⟩)).data.toList = plainB a.data.toList (bsign i) b.data.toList (bsign k) c.data.toList := by
  unfold plainB bS; simp
theorem left_list (a b c : ByteArray) (i k : Nat) : ((⟨#[40]⟩ : ByteArray) ++ ((⟨#[40]⟩ : ByteArray) ++ a ++ ⟨#[41]⟩) ++ ⟨#[32]⟩ ++ bS i ++ ⟨#[32]⟩ ++ ((⟨#[40]⟩ : ByteArray) ++ b ++ ⟨#[41]⟩) ++ ⟨#[41, 32]⟩ ++ bS k ++ ⟨#[32]⟩ ++ ((⟨#[40]⟩ : ByteArray) ++ c ++ ⟨#[41]⟩)).data.toList = leftB a.data.toList (bsign i) b.data.toList (bsign k) c.data.toList := by
  unfold leftB bS; simp
theorem right_list (a b c : ByteArray) (i k : Nat) : (((⟨#[40]⟩ : ByteArray) ++ a ++ ⟨#[41]⟩) ++ ⟨#[32]⟩ ++ bS i ++ ⟨#[32, 40]⟩ ++ ((⟨#[40]⟩ : ByteArray) ++ b ++ ⟨#[41]⟩) ++ ⟨#[32]⟩ ++ bS k ++ ⟨#[32]⟩ ++ ((⟨#[40]⟩ : ByteArray) ++ c ++ ⟨#[41]⟩) ++ ⟨#[41]⟩).data.toList = rightB a.data.toList (bsign i) b.data.toList (bsign k) c.data.toList := by
  unfold rightB bS; simp
theorem lens (a s b t c : List UInt8) : (plainB a s b t c).length + 2 = (leftB a s b t c).length ∧ (rightB a s b t c).length = (leftB a s b t c).length := by
  unfold plainB leftB rightB
  simp only [List.length_cons, List.length_append, List.length_nil]
  omega
/-- What Parse says of the three texts. -/
def BindsRel (i k : Nat) (P L R : ByteArray) : Prop := ¬ 4096 < L.size → (blev i = 4 → blev k = 4 → (ParseV P.data.toList).err = 21) ∧ (toLeft i k → (ParseV P.data.toList).err = (ParseV L.data.toList).err ∧ (ParseV P.data.toList).tree.er = (ParseV L.data.toList).tree.er ∧ (ParseV P.data.toList).mild) ∧ (¬ toLeft i k → ¬ (blev i = 4 ∧ blev k = 4) → (ParseV P.data.toList).err = (ParseV R.data.toList).err ∧ (ParseV P.data.toList).tree.er = (ParseV R.data.toList).tree.er ∧ (ParseV P.data.toList).mild)
theorem binds_rel {a b c : ByteArray} {i k : Nat} (hi : i < 11) (hk : k < 11) (ha : (ParseV a.data.toList).err = 0) (hb : (ParseV b.data.toList).err = 0) (hc : (ParseV c.data.toList).err = 0) :
    BindsRel i k (((⟨#[40]⟩ : ByteArray) ++ a ++ ⟨#[41]⟩) ++ ⟨#[32]⟩ ++ bS i ++ ⟨#[32]⟩ ++ ((⟨#[40]⟩ : ByteArray) ++ b ++ ⟨#[41]⟩) ++ ⟨#[32]⟩ ++ bS k ++ ⟨#[32]⟩ ++ ((⟨#[40]⟩ : ByteArray) ++ c ++ ⟨#[41]⟩)) ((⟨#[40]⟩ : ByteArray) ++ ((⟨#[40]⟩ : ByteArray) ++ a ++ ⟨#[41]⟩) ++ ⟨#[32]⟩ ++ bS i ++ ⟨#[32]⟩ ++ ((⟨#[40]⟩ : ByteArray) ++ b ++ ⟨#[41]⟩) ++ ⟨#[41, 32]⟩ ++ bS k ++ ⟨#[32]⟩ ++ ((⟨#[40]⟩ : ByteArray) ++ c ++ ⟨#[41]⟩)) (((⟨#[40]⟩ : ByteArray) ++ a ++ ⟨#[41]⟩) ++ ⟨#[32]⟩ ++ bS i ++ ⟨#[32, 40]⟩ ++ ((⟨#[40]⟩ : ByteArray) ++ b ++ ⟨#[41]⟩) ++ ⟨#[32]⟩ ++ bS k ++ ⟨#[32]⟩ ++ ((⟨#[40]⟩ : ByteArray) ++ c ++ ⟨#[41]⟩) ++ ⟨#[41]⟩) := by
  obtain ⟨x, hx⟩ := parseV_err0 ha
  obtain ⟨y, hy⟩ := parseV_err0 hb
  obtain ⟨z, hz⟩ := parseV_err0 hc
  intro hl
  have h1 := plain_list a b c i k
  have h2 := left_list a b c i k
  have h3 := right_list a b c i k
  have h4 : ∀ P : ByteArray, P.size = P.data.toList.length := fun P => rfl
  rw [h4] at hl
  rw [h1, h2, h3]
  rw [h2] at hl
  obtain ⟨l1, l2⟩ := lens a.data.toList (bsign i) b.data.toList (bsign k) c.data.toList
  refine ⟨fun e1 e2 => ?_, fun ht => ?_, fun ht hn => ?_⟩
  · obtain ⟨q, hq⟩ := binds_four hx hy hz hi hk e1 e2 (by omega)
    rw [hq]; rfl
  · have h := binds_left hx hy hz hi hk ht (by omega) (by omega)
    exact ⟨h.1.err, h.1.tree, h.2⟩
  · have h := binds_right hx hy hz hi hk (by unfold toLeft at ht; omega) (by omega) (by omega)
    exact ⟨h.1.err, h.1.tree, h.2⟩
theorem rem_eq (n : Nat) (h : n ≤ 255) : (wrap64 (n : Int)).tmod 11 = ((n % 11 : Nat) : Int) := by
  have h1 : wrap64 (n : Int) = (n : Int) := by unfold wrap64; omega
  rw [h1, Int.tmod_eq_emod_of_nonneg (by omega)]
  omega
theorem bS_size {i : Nat} (h : i < 11) : (bS i).size ≤ 2 := by
  have : i = 0 ∨ i = 1 ∨ i = 2 ∨ i = 3 ∨ i = 4 ∨ i = 5 ∨ i = 6 ∨ i = 7 ∨ i = 8 ∨ i = 9 ∨ i = 10 := by omega
  rcases this with rfl | rfl | rfl | rfl | rfl | rfl | rfl | rfl | rfl | rfl | rfl <;> decide
theorem signs_at (w : World) : ∀ i, i < 11 → let W := (w.alloc (.cells #[.string ⟨#[59]⟩, .string ⟨#[58, 61]⟩, .string ⟨#[124, 124]⟩, .string ⟨#[38, 38]⟩, .string ⟨#[61]⟩, .string ⟨#[60]⟩, .string ⟨#[43]⟩, .string ⟨#[45]⟩, .string ⟨#[42]⟩, .string ⟨#[47]⟩, .string ⟨#[37]⟩] 9 (0, 0))).alloc (.cells #[.int .i64 0, .int .i64 1, .int .i64 2, .int .i64 3, .int .i64 4, .int .i64 4, .int .i64 5, .int .i64 5, .int .i64 6, .int .i64 6, .int .i64 6] 3 (0, 0))
    W.cell? ⟨w.heap.size, i, none⟩ = some (.string (bS i)) ∧ W.cell? ⟨w.heap.size + 1, i, none⟩ = some (.int .i64 (blev i : Nat)) ∧ w.heap.size + 1 < W.heap.size := by
  intro i hi W
  have h1 : W.heap[w.heap.size]? = _ := ((below_one' _).block w.heap.size (by rw [World.size_alloc]; omega)).trans (box_at w _ _ rfl)
  have h2 : W.heap[w.heap.size + 1]? = _ := box_at _ _ _ (by rw [World.size_alloc])
  rw [Lib.cell_of_heap h1, Lib.cell_of_heap h2]
  refine ⟨?_, ?_, box_lt h2⟩
  · have : i = 0 ∨ i = 1 ∨ i = 2 ∨ i = 3 ∨ i = 4 ∨ i = 5 ∨ i = 6 ∨ i = 7 ∨ i = 8 ∨ i = 9 ∨ i = 10 := by omega
    rcases this with rfl | rfl | rfl | rfl | rfl | rfl | rfl | rfl | rfl | rfl | rfl <;> rfl
  · have : i = 0 ∨ i = 1 ∨ i = 2 ∨ i = 3 ∨ i = 4 ∨ i = 5 ∨ i = 6 ∨ i = 7 ∨ i = 8 ∨ i = 9 ∨ i = 10 := by omega
    rcases this with rfl | rfl | rfl | rfl | rfl | rfl | rfl | rfl | rfl | rfl | rfl <;> rfl
set_option maxRecDepth 100000 in
set_option maxHeartbeats 4000000 in
theorem law_Binds (a b c : ByteArray) (one two : Int) (w : World) (hy : Ready w) (ha : a.size ≤ 140737488355328) (hb : b.size ≤ 140737488355328) (hc : c.size ≤ 140737488355328) (h1 : 0 ≤ one ∧ one ≤ 255) (h2 : 0 ≤ two ∧ two ≤ 255) : Calls Tryd.prog 8 #[.string a, .string b, .string c, .int .u8 one, .int .u8 two] w (YesMade true w) := by
  have HY := Lib.hid hy
  clear hy
  obtain ⟨n1, rfl⟩ := Int.eq_ofNat_of_zero_le h1.1
  obtain ⟨n2, rfl⟩ := Int.eq_ofNat_of_zero_le h2.1
  have HN : Hid (n1 ≤ 255 ∧ n2 ≤ 255) := Lib.hid ⟨by omega, by omega⟩
  clear h1 h2
  have HJ : Hid ((ParseV a.data.toList).err = 0 → (ParseV b.data.toList).err = 0 → (ParseV c.data.toList).err = 0 → _) := Lib.hid (fun ha hb hc => binds_rel (a := a) (b := b) (c := c) (i := n1 % 11) (k := n2 % 11) (Nat.mod_lt _ (by decide)) (Nat.mod_lt _ (by decide)) ha hb hc)
  go_enter Tryd.func8, Tryd.ntmps8
  go_wp2_with fail
  refine (awake6_any _ HY.out).mono ?_
  rintro e w1 ⟨rfl, hb1⟩
  replace HY := Lib.hid (HY.out.below hb1)
  have HB1 := Lib.hid hb1
  clear hb1
  go_wp2_with fail
  refine (p_parse_t a _ HY.out).mono ?_
  rintro e w2 ⟨hb2, s1, rfl, hi⟩
  replace HB1 := Lib.hid (HB1.out.trans (hb2.mono HB1.out.size))
  replace HY := Lib.hid (HY.out.below hb2)
  clear hb2 hi
  generalize ParseV a.data.toList = r1 at *
  have HBX := Lib.hid (below_one' (w := w2) (exObj r1.tree s1))
  unfold exOf exV
  go_wp2_with fail
  all_goals
    generalize w2.alloc _ = W2 at *
    replace HB1 := Lib.hid (HB1.out.trans (HBX.out.mono HB1.out.size))
    replace HY := Lib.hid (HY.out.below HBX.out)
    clear HBX
    refine (p_parse_t b _ HY.out).mono ?_
    rintro e w3 ⟨hb2, s2, rfl, hi⟩
    replace HB1 := Lib.hid (HB1.out.trans (hb2.mono HB1.out.size))
    replace HY := Lib.hid (HY.out.below hb2)
    clear hb2 hi
    generalize ParseV b.data.toList = r2 at *
    have HBX := Lib.hid (below_one' (w := w3) (exObj r2.tree s2))
    unfold exOf exV
    go_wp2_with fail
    all_goals
      generalize w3.alloc _ = W3 at *
      replace HB1 := Lib.hid (HB1.out.trans (HBX.out.mono HB1.out.size))
      replace HY := Lib.hid (HY.out.below HBX.out)
      clear HBX
      refine (p_parse_t c _ HY.out).mono ?_
      rintro e w4 ⟨hb2, s3, rfl, hi⟩
      replace HB1 := Lib.hid (HB1.out.trans (hb2.mono HB1.out.size))
      replace HY := Lib.hid (HY.out.below hb2)
      clear hb2 hi
      generalize ParseV c.data.toList = r3 at *
      have HBX := Lib.hid (below_one' (w := w4) (exObj r3.tree s3))
      unfold exOf exV
      go_upto_region 6 with fail
      all_goals
        generalize w4.alloc _ = W4 at *
        replace HB1 := Lib.hid (HB1.out.trans (HBX.out.mono HB1.out.size))
        replace HY := Lib.hid (HY.out.below HBX.out)
        clear HBX
        by_cases e1 : r1.err = 0
        · have q1 : (r1.err != 0) = false := by rw [bne_eq_false_iff_eq]; exact e1
          by_cases e2 : r2.err = 0
          · have q2 : (r2.err != 0) = false := by rw [bne_eq_false_iff_eq]; exact e2
            by_cases e3 : r3.err = 0
            · have q3 : (r3.err != 0) = false := by rw [bne_eq_false_iff_eq]; exact e3
              replace HJ := Lib.hid (HJ.out e1 e2 e3)
              clear e1 e2 e3
              go_upto_region 10 with fail
              clear q1 q2 q3
              obtain ⟨W5, hW5⟩ : ∃ W, (W4.alloc (.cells #[.string ⟨#[59]⟩, .string ⟨#[58, 61]⟩, .string ⟨#[124, 124]⟩, .string ⟨#[38, 38]⟩, .string ⟨#[61]⟩, .string ⟨#[60]⟩, .string ⟨#[43]⟩, .string ⟨#[45]⟩, .string ⟨#[42]⟩, .string ⟨#[47]⟩, .string ⟨#[37]⟩] 9 (0, 0))).alloc (.cells #[.int .i64 0, .int .i64 1, .int .i64 2, .int .i64 3, .int .i64 4, .int .i64 4, .int .i64 5, .int .i64 5, .int .i64 6, .int .i64 6, .int .i64 6] 3 (0, 0)) = W := ⟨_, rfl⟩
              have hbx := below_two (w := W4) (.cells #[.string ⟨#[59]⟩, .string ⟨#[58, 61]⟩, .string ⟨#[124, 124]⟩, .string ⟨#[38, 38]⟩, .string ⟨#[61]⟩, .string ⟨#[60]⟩, .string ⟨#[43]⟩, .string ⟨#[45]⟩, .string ⟨#[42]⟩, .string ⟨#[47]⟩, .string ⟨#[37]⟩] 9 (0, 0)) (.cells #[.int .i64 0, .int .i64 1, .int .i64 2, .int .i64 3, .int .i64 4, .int .i64 4, .int .i64 5, .int .i64 5, .int .i64 6, .int .i64 6, .int .i64 6] 3 (0, 0))
              have HS := Lib.hid (signs_at W4)
              rw [hW5] at hbx HS
              replace HB1 := Lib.hid (HB1.out.trans (hbx.mono HB1.out.size))
              replace HY := Lib.hid (HY.out.below hbx)
              rw [hW5]
              clear hW5 hbx
              obtain ⟨g1, hg1⟩ : ∃ g, g = W4.heap.size := ⟨_, rfl⟩
              rw [← hg1] at HS ⊢
              clear hg1
              go_upto_region 13 with fail
              rw [rem_eq n1 HN.out.1, rem_eq n2 HN.out.2]
              obtain ⟨i, hi⟩ : ∃ i, n1 % 11 = i := ⟨_, rfl⟩
              obtain ⟨k, hk⟩ : ∃ k, n2 % 11 = k := ⟨_, rfl⟩
              rw [hi, hk]
              rw [hi, hk] at HJ
              have hi2 : i < 11 := by omega
              have hk2 : k < 11 := by omega
              clear hi hk HN
              obtain ⟨c1, d1, l1⟩ := HS.out i hi2
              obtain ⟨c2, d2, _⟩ := HS.out k hk2
              have l0 : g1 < W5.heap.size := by omega
              have z1 := bS_size hi2
              have z2 := bS_size hk2
              have i1 : (i : Int) < 11 := by omega
              have i2 : (0 : Int) ≤ (i : Int) := by omega
              have k1 : (k : Int) < 11 := by omega
              have k2 : (0 : Int) ≤ (k : Int) := by omega
              clear HS
              unfold BindsRel toLeft at HJ
              generalize bS i = si at *
              generalize bS k = sk at *
              go_quiet (fail)
              have hdr := drewN_below W5 nq
              obtain ⟨W6, hW6⟩ : ∃ W, W5.drewN nq = W := ⟨_, rfl⟩
              rw [hW6] at hdr ⊢
              replace c1 := (hdr.cell (p := ⟨g1, i, none⟩) l0).trans c1
              replace c2 := (hdr.cell (p := ⟨g1, k, none⟩) l0).trans c2
              replace d1 := (hdr.cell (p := ⟨g1 + 1, i, none⟩) l1).trans d1
              replace d2 := (hdr.cell (p := ⟨g1 + 1, k, none⟩) l1).trans d2
              replace l0 := Nat.lt_of_lt_of_le l0 hdr.size
              replace l1 := Nat.lt_of_lt_of_le l1 hdr.size
              replace HB1 := Lib.hid (HB1.out.trans (hdr.mono HB1.out.size))
              replace HY := Lib.hid (HY.out.below hdr)
              clear hW6 hdr
              generalize hP : ((⟨#[40]⟩ : ByteArray) ++ a ++ ⟨#[41]⟩) ++ ⟨#[32]⟩ ++ si ++ ⟨#[32]⟩ ++ ((⟨#[40]⟩ : ByteArray) ++ b ++ ⟨#[41]⟩) ++ ⟨#[32]⟩ ++ sk ++ ⟨#[32]⟩ ++ ((⟨#[40]⟩ : ByteArray) ++ c ++ ⟨#[41]⟩) = sP at *
              go_upto_region 14 with fail
              go_quiet (fail)
              have hdr := drewN_below W6 nq
              obtain ⟨W7, hW7⟩ : ∃ W, W6.drewN nq = W := ⟨_, rfl⟩
              rw [hW7] at hdr ⊢
              replace c1 := (hdr.cell (p := ⟨g1, i, none⟩) l0).trans c1
              replace c2 := (hdr.cell (p := ⟨g1, k, none⟩) l0).trans c2
              replace d1 := (hdr.cell (p := ⟨g1 + 1, i, none⟩) l1).trans d1
              replace d2 := (hdr.cell (p := ⟨g1 + 1, k, none⟩) l1).trans d2
              replace l0 := Nat.lt_of_lt_of_le l0 hdr.size
              replace l1 := Nat.lt_of_lt_of_le l1 hdr.size
              replace HB1 := Lib.hid (HB1.out.trans (hdr.mono HB1.out.size))
              replace HY := Lib.hid (HY.out.below hdr)
              clear hW7 hdr
              generalize hL : (⟨#[40]⟩ : ByteArray) ++ ((⟨#[40]⟩ : ByteArray) ++ a ++ ⟨#[41]⟩) ++ ⟨#[32]⟩ ++ si ++ ⟨#[32]⟩ ++ ((⟨#[40]⟩ : ByteArray) ++ b ++ ⟨#[41]⟩) ++ ⟨#[41, 32]⟩ ++ sk ++ ⟨#[32]⟩ ++ ((⟨#[40]⟩ : ByteArray) ++ c ++ ⟨#[41]⟩) = sL at *
              go_upto_region 15 with fail
              go_quiet (fail)
              have hdr := drewN_below W7 nq
              obtain ⟨W8, hW8⟩ : ∃ W, W7.drewN nq = W := ⟨_, rfl⟩
              rw [hW8] at hdr ⊢
              replace c1 := (hdr.cell (p := ⟨g1, i, none⟩) l0).trans c1
              replace c2 := (hdr.cell (p := ⟨g1, k, none⟩) l0).trans c2
              replace d1 := (hdr.cell (p := ⟨g1 + 1, i, none⟩) l1).trans d1
              replace d2 := (hdr.cell (p := ⟨g1 + 1, k, none⟩) l1).trans d2
              replace l0 := Nat.lt_of_lt_of_le l0 hdr.size
              replace l1 := Nat.lt_of_lt_of_le l1 hdr.size
              replace HB1 := Lib.hid (HB1.out.trans (hdr.mono HB1.out.size))
              replace HY := Lib.hid (HY.out.below hdr)
              clear hW8 hdr
              generalize hR : ((⟨#[40]⟩ : ByteArray) ++ a ++ ⟨#[41]⟩) ++ ⟨#[32]⟩ ++ si ++ ⟨#[32, 40]⟩ ++ ((⟨#[40]⟩ : ByteArray) ++ b ++ ⟨#[41]⟩) ++ ⟨#[32]⟩ ++ sk ++ ⟨#[32]⟩ ++ ((⟨#[40]⟩ : ByteArray) ++ c ++ ⟨#[41]⟩) ++ ⟨#[41]⟩ = sR at *
              clear hP hL hR ha hb hc z1 z2
              by_cases hbig : 4096 < sL.size
              · have g1 : decide (4096 < (sL.size : Int)) = true := decide_eq_true (by omega)
                have g1' : decide (4096 < sL.size) = true := decide_eq_true hbig
                go_wp2_with fail
                go_ret
                exact ⟨rfl, HB1.out⟩
              have q1 : decide (4096 < (sL.size : Int)) = false := decide_eq_false (by omega)
              have q1' : decide (4096 < sL.size) = false := decide_eq_false hbig
              replace HJ := Lib.hid (HJ.out hbig)
              go_upto_region 18 with fail
              clear q1 q1' hbig
              go_wp2_with fail
              refine (p_parse_t sP _ HY.out).mono ?_
              rintro e w9 ⟨hb2, s4, rfl, hi⟩
              have HB2 := Lib.hid (HB1.out.trans (hb2.mono HB1.out.size))
              replace HY := Lib.hid (HY.out.below hb2)
              have HI := Lib.hid hi
              replace d1 := (hb2.cell (p := ⟨g1 + 1, i, none⟩) l1).trans d1
              replace d2 := (hb2.cell (p := ⟨g1 + 1, k, none⟩) l1).trans d2
              replace l1 := Nat.lt_of_lt_of_le l1 hb2.size
              clear hb2 hi c1 c2 l0 HB1
              generalize ParseV sP.data.toList = r4 at *
              unfold exOf exV
              go_upto_region 19 with fail
              all_goals
                obtain ⟨W9, hW9⟩ : ∃ W, w9.alloc (exObj r4.tree s4) = W := ⟨_, rfl⟩
                have hbx := below_one' (w := w9) (exObj r4.tree s4)
                have HX : Hid (InBox W9 w9.heap.size r4.tree s4) := Lib.hid (by rw [← hW9]; exact InBox.new HI.out)
                rw [hW9] at hbx
                have HB3 := Lib.hid (HB2.out.trans (hbx.mono HB2.out.size))
                have HY3 := Lib.hid (HY.out.below hbx)
                replace d1 := (hbx.cell (p := ⟨g1 + 1, i, none⟩) l1).trans d1
                replace d2 := (hbx.cell (p := ⟨g1 + 1, k, none⟩) l1).trans d2
                replace l1 := Nat.lt_of_lt_of_le l1 hbx.size
                unfold exObj at hW9
                try rw [hW9]
                clear hW9 hbx HB2 HI HY
                generalize w9.heap.size = bx at *
                generalize hbi : blev i = li at *
                generalize hbk : blev k = lk at *
                by_cases h4i : li = 4
                · have q4 : ((li : Int) == 4) = true := by rw [beq_iff_eq]; omega
                  by_cases h4k : lk = 4
                  · have q5 : ((lk : Int) == 4) = true := by rw [beq_iff_eq]; omega
                    have e1 : (r4.err == 21) = true := by rw [beq_iff_eq]; exact HJ.out.1 h4i h4k
                    clear HJ h4i h4k
                    go_wp2_with fail
                    go_ret
                    exact ⟨by first | rfl | rw [e1], HB3.out⟩
                  · have q5 : ((lk : Int) == 4) = false := by rw [beq_eq_false_iff_ne]; omega
                    have HN4 : ¬ (li = 4 ∧ lk = 4) := fun h => h4k h.2
                    clear h4i h4k
                    by_cases hgt : lk < li
                    · have p1 : decide ((lk : Int) < (li : Int)) = true := decide_eq_true (by omega)
                      have p2 : (lk : Int) < (li : Int) := by omega
                      have HK := Lib.hid (HJ.out.2.1 (.inl hgt))
                      clear HJ hgt
                      go_upto_region 22 with fail
                      clear q4 q5
                      go_quiet (fail)
                      have hdr := drewN_below W9 nq
                      obtain ⟨WA, hWA⟩ : ∃ W, W9.drewN nq = W := ⟨_, rfl⟩
                      rw [hWA] at hdr ⊢
                      replace HB3 := Lib.hid (HB3.out.trans (hdr.mono HB3.out.size))
                      replace HY3 := Lib.hid (HY3.out.below hdr)
                      replace HX := Lib.hid (HX.out.below hdr)
                      replace d1 : True := trivial
                      replace d2 : True := trivial
                      replace l1 : True := trivial
                      clear hWA hdr
                      go_upto_region 24 with fail
                      clear p1 p2
                      go_wp2_with fail
                      refine (p_parse_t sL _ HY3.out).mono ?_
                      rintro e w10 ⟨hb4, s5, rfl, hi⟩
                      have HB4 := Lib.hid (HB3.out.trans (hb4.mono HB3.out.size))
                      have HX4 := Lib.hid (HX.out.below hb4)
                      have HI := Lib.hid hi
                      clear hb4 hi HB3 HX HY3 d1 d2 l1
                      generalize ParseV sL.data.toList = r5 at *
                      unfold exOf exV
                      go_upto_region 25 with fail
                      all_goals
                        obtain ⟨W10, hW10⟩ : ∃ W, w10.alloc (exObj r5.tree s5) = W := ⟨_, rfl⟩
                        have hbx := below_one' (w := w10) (exObj r5.tree s5)
                        have HZ : Hid (InBox W10 w10.heap.size r5.tree s5) := Lib.hid (by rw [← hW10]; exact InBox.new HI.out)
                        rw [hW10] at hbx
                        have HB5 := Lib.hid (HB4.out.trans (hbx.mono HB4.out.size))
                        have HX5 := Lib.hid (HX4.out.below hbx)
                        unfold exObj at hW10
                        try rw [hW10]
                        clear hW10 hbx HB4 HX4 HI
                        generalize w10.heap.size = bz at *
                        obtain ⟨h1, h2, h3⟩ := HK.out
                        have e1 : (r4.err == r5.err) = true := by rw [beq_iff_eq]; exact h1
                        have HC := r_same_any false r4.tree r5.tree s4 s5 W10 HX5.out.tree HZ.out.tree
                        rw [(alike_er _ _).2 h2] at HC
                        unfold exOf exV at HC
                        replace HC := Lib.hid HC
                        obtain ⟨f0, f1, f2, f3, f4, f5, f6, f7, _⟩ := Box8.cells HX5.out.box
                        have fl := HX5.out.box.lt
                        obtain ⟨y0, y1, y2, y3, y4, y5, y6, y7, _⟩ := Box8.cells HZ.out.box
                        have gl := HZ.out.box.lt
                        have HM := Lib.hid h3
                        clear h1 h2 h3 HK
                        rcases HM.out with hm | hm | hm
                        · have m0 : (r4.err == 0) = true := by rw [hm]; rfl
                          clear hm HM
                          go_wp2_with fail
                          refine HC.out.mono ?_
                          rintro e w11 ⟨rfl, hb5⟩
                          have HB6 := Lib.hid (HB5.out.trans (hb5.mono HB5.out.size))
                          clear hb5
                          go_wp2_with fail
                          go_ret
                          exact ⟨rfl, HB6.out⟩
                        · have m0 : (r4.err == 0) = false := by rw [hm]; rfl
                          have m1 : (r4.err == 3) = true := by rw [hm]; rfl
                          clear hm HM
                          go_wp2_with fail
                          refine HC.out.mono ?_
                          rintro e w11 ⟨rfl, hb5⟩
                          have HB6 := Lib.hid (HB5.out.trans (hb5.mono HB5.out.size))
                          clear hb5
                          go_wp2_with fail
                          go_ret
                          exact ⟨rfl, HB6.out⟩
                        · have m0 : (r4.err == 0) = false := by rw [hm]; rfl
                          have m1 : (r4.err == 3) = false := by rw [hm]; rfl
                          have m2 : (r4.err == 22) = true := by rw [hm]; rfl
                          clear hm HM
                          go_wp2_with fail
                          refine HC.out.mono ?_
                          rintro e w11 ⟨rfl, hb5⟩
                          have HB6 := Lib.hid (HB5.out.trans (hb5.mono HB5.out.size))
                          clear hb5
                          go_wp2_with fail
                          go_ret
                          exact ⟨rfl, HB6.out⟩
                    · have p1 : decide ((lk : Int) < (li : Int)) = false := decide_eq_false (by omega)
                      have p2 : ¬ (lk : Int) < (li : Int) := by omega
                      by_cases heq : li = lk
                      · have p3 : ((li : Int) == (lk : Int)) = true := by rw [beq_iff_eq]; omega
                        by_cases h4 : 4 < li
                        · have p4 : decide ((4 : Int) < (li : Int)) = true := decide_eq_true (by omega)
                          have p5 : (4 : Int) < (li : Int) := by omega
                          have HK := Lib.hid (HJ.out.2.1 (.inr ⟨heq, h4⟩))
                          clear HJ hgt heq h4
                          go_upto_region 22 with fail
                          clear q4 q5
                          go_quiet (fail)
                          have hdr := drewN_below W9 nq
                          obtain ⟨WA, hWA⟩ : ∃ W, W9.drewN nq = W := ⟨_, rfl⟩
                          rw [hWA] at hdr ⊢
                          replace HB3 := Lib.hid (HB3.out.trans (hdr.mono HB3.out.size))
                          replace HY3 := Lib.hid (HY3.out.below hdr)
                          replace HX := Lib.hid (HX.out.below hdr)
                          replace d1 : True := trivial
                          replace d2 : True := trivial
                          replace l1 : True := trivial
                          clear hWA hdr
                          go_upto_region 24 with fail
                          clear p1 p2 p3 p4 p5
                          go_wp2_with fail
                          refine (p_parse_t sL _ HY3.out).mono ?_
                          rintro e w10 ⟨hb4, s5, rfl, hi⟩
                          have HB4 := Lib.hid (HB3.out.trans (hb4.mono HB3.out.size))
                          have HX4 := Lib.hid (HX.out.below hb4)
                          have HI := Lib.hid hi
                          clear hb4 hi HB3 HX HY3 d1 d2 l1
                          generalize ParseV sL.data.toList = r5 at *
                          unfold exOf exV
                          go_upto_region 25 with fail
                          all_goals
                            obtain ⟨W10, hW10⟩ : ∃ W, w10.alloc (exObj r5.tree s5) = W := ⟨_, rfl⟩
                            have hbx := below_one' (w := w10) (exObj r5.tree s5)
                            have HZ : Hid (InBox W10 w10.heap.size r5.tree s5) := Lib.hid (by rw [← hW10]; exact InBox.new HI.out)
                            rw [hW10] at hbx
                            have HB5 := Lib.hid (HB4.out.trans (hbx.mono HB4.out.size))
                            have HX5 := Lib.hid (HX4.out.below hbx)
                            unfold exObj at hW10
                            try rw [hW10]
                            clear hW10 hbx HB4 HX4 HI
                            generalize w10.heap.size = bz at *
                            obtain ⟨h1, h2, h3⟩ := HK.out
                            have e1 : (r4.err == r5.err) = true := by rw [beq_iff_eq]; exact h1
                            have HC := r_same_any false r4.tree r5.tree s4 s5 W10 HX5.out.tree HZ.out.tree
                            rw [(alike_er _ _).2 h2] at HC
                            unfold exOf exV at HC
                            replace HC := Lib.hid HC
                            obtain ⟨f0, f1, f2, f3, f4, f5, f6, f7, _⟩ := Box8.cells HX5.out.box
                            have fl := HX5.out.box.lt
                            obtain ⟨y0, y1, y2, y3, y4, y5, y6, y7, _⟩ := Box8.cells HZ.out.box
                            have gl := HZ.out.box.lt
                            have HM := Lib.hid h3
                            clear h1 h2 h3 HK
                            rcases HM.out with hm | hm | hm
                            · have m0 : (r4.err == 0) = true := by rw [hm]; rfl
                              clear hm HM
                              go_wp2_with fail
                              refine HC.out.mono ?_
                              rintro e w11 ⟨rfl, hb5⟩
                              have HB6 := Lib.hid (HB5.out.trans (hb5.mono HB5.out.size))
                              clear hb5
                              go_wp2_with fail
                              go_ret
                              exact ⟨rfl, HB6.out⟩
                            · have m0 : (r4.err == 0) = false := by rw [hm]; rfl
                              have m1 : (r4.err == 3) = true := by rw [hm]; rfl
                              clear hm HM
                              go_wp2_with fail
                              refine HC.out.mono ?_
                              rintro e w11 ⟨rfl, hb5⟩
                              have HB6 := Lib.hid (HB5.out.trans (hb5.mono HB5.out.size))
                              clear hb5
                              go_wp2_with fail
                              go_ret
                              exact ⟨rfl, HB6.out⟩
                            · have m0 : (r4.err == 0) = false := by rw [hm]; rfl
                              have m1 : (r4.err == 3) = false := by rw [hm]; rfl
                              have m2 : (r4.err == 22) = true := by rw [hm]; rfl
                              clear hm HM
                              go_wp2_with fail
                              refine HC.out.mono ?_
                              rintro e w11 ⟨rfl, hb5⟩
                              have HB6 := Lib.hid (HB5.out.trans (hb5.mono HB5.out.size))
                              clear hb5
                              go_wp2_with fail
                              go_ret
                              exact ⟨rfl, HB6.out⟩
                        · have p4 : decide ((4 : Int) < (li : Int)) = false := decide_eq_false (by omega)
                          have p5 : ¬ (4 : Int) < (li : Int) := by omega
                          have HK := Lib.hid (HJ.out.2.2 (by omega) HN4)
                          clear HJ hgt heq h4
                          go_upto_region 22 with fail
                          clear q4 q5
                          go_quiet (fail)
                          have hdr := drewN_below W9 nq
                          obtain ⟨WA, hWA⟩ : ∃ W, W9.drewN nq = W := ⟨_, rfl⟩
                          rw [hWA] at hdr ⊢
                          replace HB3 := Lib.hid (HB3.out.trans (hdr.mono HB3.out.size))
                          replace HY3 := Lib.hid (HY3.out.below hdr)
                          replace HX := Lib.hid (HX.out.below hdr)
                          replace d1 : True := trivial
                          replace d2 : True := trivial
                          replace l1 : True := trivial
                          clear hWA hdr
                          go_upto_region 24 with fail
                          clear p1 p2 p3 p4 p5
                          go_wp2_with fail
                          refine (p_parse_t sR _ HY3.out).mono ?_
                          rintro e w10 ⟨hb4, s5, rfl, hi⟩
                          have HB4 := Lib.hid (HB3.out.trans (hb4.mono HB3.out.size))
                          have HX4 := Lib.hid (HX.out.below hb4)
                          have HI := Lib.hid hi
                          clear hb4 hi HB3 HX HY3 d1 d2 l1
                          generalize ParseV sR.data.toList = r5 at *
                          unfold exOf exV
                          go_upto_region 25 with fail
                          all_goals
                            obtain ⟨W10, hW10⟩ : ∃ W, w10.alloc (exObj r5.tree s5) = W := ⟨_, rfl⟩
                            have hbx := below_one' (w := w10) (exObj r5.tree s5)
                            have HZ : Hid (InBox W10 w10.heap.size r5.tree s5) := Lib.hid (by rw [← hW10]; exact InBox.new HI.out)
                            rw [hW10] at hbx
                            have HB5 := Lib.hid (HB4.out.trans (hbx.mono HB4.out.size))
                            have HX5 := Lib.hid (HX4.out.below hbx)
                            unfold exObj at hW10
                            try rw [hW10]
                            clear hW10 hbx HB4 HX4 HI
                            generalize w10.heap.size = bz at *
                            obtain ⟨h1, h2, h3⟩ := HK.out
                            have e1 : (r4.err == r5.err) = true := by rw [beq_iff_eq]; exact h1
                            have HC := r_same_any false r4.tree r5.tree s4 s5 W10 HX5.out.tree HZ.out.tree
                            rw [(alike_er _ _).2 h2] at HC
                            unfold exOf exV at HC
                            replace HC := Lib.hid HC
                            obtain ⟨f0, f1, f2, f3, f4, f5, f6, f7, _⟩ := Box8.cells HX5.out.box
                            have fl := HX5.out.box.lt
                            obtain ⟨y0, y1, y2, y3, y4, y5, y6, y7, _⟩ := Box8.cells HZ.out.box
                            have gl := HZ.out.box.lt
                            have HM := Lib.hid h3
                            clear h1 h2 h3 HK
                            rcases HM.out with hm | hm | hm
                            · have m0 : (r4.err == 0) = true := by rw [hm]; rfl
                              clear hm HM
                              go_wp2_with fail
                              refine HC.out.mono ?_
                              rintro e w11 ⟨rfl, hb5⟩
                              have HB6 := Lib.hid (HB5.out.trans (hb5.mono HB5.out.size))
                              clear hb5
                              go_wp2_with fail
                              go_ret
                              exact ⟨rfl, HB6.out⟩
                            · have m0 : (r4.err == 0) = false := by rw [hm]; rfl
                              have m1 : (r4.err == 3) = true := by rw [hm]; rfl
                              clear hm HM
                              go_wp2_with fail
                              refine HC.out.mono ?_
                              rintro e w11 ⟨rfl, hb5⟩
                              have HB6 := Lib.hid (HB5.out.trans (hb5.mono HB5.out.size))
                              clear hb5
                              go_wp2_with fail
                              go_ret
                              exact ⟨rfl, HB6.out⟩
                            · have m0 : (r4.err == 0) = false := by rw [hm]; rfl
                              have m1 : (r4.err == 3) = false := by rw [hm]; rfl
                              have m2 : (r4.err == 22) = true := by rw [hm]; rfl
                              clear hm HM
                              go_wp2_with fail
                              refine HC.out.mono ?_
                              rintro e w11 ⟨rfl, hb5⟩
                              have HB6 := Lib.hid (HB5.out.trans (hb5.mono HB5.out.size))
                              clear hb5
                              go_wp2_with fail
                              go_ret
                              exact ⟨rfl, HB6.out⟩
                      · have p3 : ((li : Int) == (lk : Int)) = false := by rw [beq_eq_false_iff_ne]; omega
                        have HK := Lib.hid (HJ.out.2.2 (by omega) HN4)
                        clear HJ hgt heq
                        go_upto_region 22 with fail
                        clear q4 q5
                        go_quiet (fail)
                        have hdr := drewN_below W9 nq
                        obtain ⟨WA, hWA⟩ : ∃ W, W9.drewN nq = W := ⟨_, rfl⟩
                        rw [hWA] at hdr ⊢
                        replace HB3 := Lib.hid (HB3.out.trans (hdr.mono HB3.out.size))
                        replace HY3 := Lib.hid (HY3.out.below hdr)
                        replace HX := Lib.hid (HX.out.below hdr)
                        replace d1 : True := trivial
                        replace d2 : True := trivial
                        replace l1 : True := trivial
                        clear hWA hdr
                        go_upto_region 24 with fail
                        clear p1 p2 p3
                        go_wp2_with fail
                        refine (p_parse_t sR _ HY3.out).mono ?_
                        rintro e w10 ⟨hb4, s5, rfl, hi⟩
                        have HB4 := Lib.hid (HB3.out.trans (hb4.mono HB3.out.size))
                        have HX4 := Lib.hid (HX.out.below hb4)
                        have HI := Lib.hid hi
                        clear hb4 hi HB3 HX HY3 d1 d2 l1
                        generalize ParseV sR.data.toList = r5 at *
                        unfold exOf exV
                        go_upto_region 25 with fail
                        all_goals
                          obtain ⟨W10, hW10⟩ : ∃ W, w10.alloc (exObj r5.tree s5) = W := ⟨_, rfl⟩
                          have hbx := below_one' (w := w10) (exObj r5.tree s5)
                          have HZ : Hid (InBox W10 w10.heap.size r5.tree s5) := Lib.hid (by rw [← hW10]; exact InBox.new HI.out)
                          rw [hW10] at hbx
                          have HB5 := Lib.hid (HB4.out.trans (hbx.mono HB4.out.size))
                          have HX5 := Lib.hid (HX4.out.below hbx)
                          unfold exObj at hW10
                          try rw [hW10]
                          clear hW10 hbx HB4 HX4 HI
                          generalize w10.heap.size = bz at *
                          obtain ⟨h1, h2, h3⟩ := HK.out
                          have e1 : (r4.err == r5.err) = true := by rw [beq_iff_eq]; exact h1
                          have HC := r_same_any false r4.tree r5.tree s4 s5 W10 HX5.out.tree HZ.out.tree
                          rw [(alike_er _ _).2 h2] at HC
                          unfold exOf exV at HC
                          replace HC := Lib.hid HC
                          obtain ⟨f0, f1, f2, f3, f4, f5, f6, f7, _⟩ := Box8.cells HX5.out.box
                          have fl := HX5.out.box.lt
                          obtain ⟨y0, y1, y2, y3, y4, y5, y6, y7, _⟩ := Box8.cells HZ.out.box
                          have gl := HZ.out.box.lt
                          have HM := Lib.hid h3
                          clear h1 h2 h3 HK
                          rcases HM.out with hm | hm | hm
                          · have m0 : (r4.err == 0) = true := by rw [hm]; rfl
                            clear hm HM
                            go_wp2_with fail
                            refine HC.out.mono ?_
                            rintro e w11 ⟨rfl, hb5⟩
                            have HB6 := Lib.hid (HB5.out.trans (hb5.mono HB5.out.size))
                            clear hb5
                            go_wp2_with fail
                            go_ret
                            exact ⟨rfl, HB6.out⟩
                          · have m0 : (r4.err == 0) = false := by rw [hm]; rfl
                            have m1 : (r4.err == 3) = true := by rw [hm]; rfl
                            clear hm HM
                            go_wp2_with fail
                            refine HC.out.mono ?_
                            rintro e w11 ⟨rfl, hb5⟩
                            have HB6 := Lib.hid (HB5.out.trans (hb5.mono HB5.out.size))
                            clear hb5
                            go_wp2_with fail
                            go_ret
                            exact ⟨rfl, HB6.out⟩
                          · have m0 : (r4.err == 0) = false := by rw [hm]; rfl
                            have m1 : (r4.err == 3) = false := by rw [hm]; rfl
                            have m2 : (r4.err == 22) = true := by rw [hm]; rfl
                            clear hm HM
                            go_wp2_with fail
                            refine HC.out.mono ?_
                            rintro e w11 ⟨rfl, hb5⟩
                            have HB6 := Lib.hid (HB5.out.trans (hb5.mono HB5.out.size))
                            clear hb5
                            go_wp2_with fail
                            go_ret
                            exact ⟨rfl, HB6.out⟩
                · have q4 : ((li : Int) == 4) = false := by rw [beq_eq_false_iff_ne]; omega
                  have HN4 : ¬ (li = 4 ∧ lk = 4) := fun h => h4i h.1
                  clear h4i
                  by_cases hgt : lk < li
                  · have p1 : decide ((lk : Int) < (li : Int)) = true := decide_eq_true (by omega)
                    have p2 : (lk : Int) < (li : Int) := by omega
                    have HK := Lib.hid (HJ.out.2.1 (.inl hgt))
                    clear HJ hgt
                    go_upto_region 22 with fail
                    clear q4
                    go_quiet (fail)
                    have hdr := drewN_below W9 nq
                    obtain ⟨WA, hWA⟩ : ∃ W, W9.drewN nq = W := ⟨_, rfl⟩
                    rw [hWA] at hdr ⊢
                    replace HB3 := Lib.hid (HB3.out.trans (hdr.mono HB3.out.size))
                    replace HY3 := Lib.hid (HY3.out.below hdr)
                    replace HX := Lib.hid (HX.out.below hdr)
                    replace d1 : True := trivial
                    replace d2 : True := trivial
                    replace l1 : True := trivial
                    clear hWA hdr
                    go_upto_region 24 with fail
                    clear p1 p2
                    go_wp2_with fail
                    refine (p_parse_t sL _ HY3.out).mono ?_
                    rintro e w10 ⟨hb4, s5, rfl, hi⟩
                    have HB4 := Lib.hid (HB3.out.trans (hb4.mono HB3.out.size))
                    have HX4 := Lib.hid (HX.out.below hb4)
                    have HI := Lib.hid hi
                    clear hb4 hi HB3 HX HY3 d1 d2 l1
                    generalize ParseV sL.data.toList = r5 at *
                    unfold exOf exV
                    go_upto_region 25 with fail
                    all_goals
                      obtain ⟨W10, hW10⟩ : ∃ W, w10.alloc (exObj r5.tree s5) = W := ⟨_, rfl⟩
                      have hbx := below_one' (w := w10) (exObj r5.tree s5)
                      have HZ : Hid (InBox W10 w10.heap.size r5.tree s5) := Lib.hid (by rw [← hW10]; exact InBox.new HI.out)
                      rw [hW10] at hbx
                      have HB5 := Lib.hid (HB4.out.trans (hbx.mono HB4.out.size))
                      have HX5 := Lib.hid (HX4.out.below hbx)
                      unfold exObj at hW10
                      try rw [hW10]
                      clear hW10 hbx HB4 HX4 HI
                      generalize w10.heap.size = bz at *
                      obtain ⟨h1, h2, h3⟩ := HK.out
                      have e1 : (r4.err == r5.err) = true := by rw [beq_iff_eq]; exact h1
                      have HC := r_same_any false r4.tree r5.tree s4 s5 W10 HX5.out.tree HZ.out.tree
                      rw [(alike_er _ _).2 h2] at HC
                      unfold exOf exV at HC
                      replace HC := Lib.hid HC
                      obtain ⟨f0, f1, f2, f3, f4, f5, f6, f7, _⟩ := Box8.cells HX5.out.box
                      have fl := HX5.out.box.lt
                      obtain ⟨y0, y1, y2, y3, y4, y5, y6, y7, _⟩ := Box8.cells HZ.out.box
                      have gl := HZ.out.box.lt
                      have HM := Lib.hid h3
                      clear h1 h2 h3 HK
                      rcases HM.out with hm | hm | hm
                      · have m0 : (r4.err == 0) = true := by rw [hm]; rfl
                        clear hm HM
                        go_wp2_with fail
                        refine HC.out.mono ?_
                        rintro e w11 ⟨rfl, hb5⟩
                        have HB6 := Lib.hid (HB5.out.trans (hb5.mono HB5.out.size))
                        clear hb5
                        go_wp2_with fail
                        go_ret
                        exact ⟨rfl, HB6.out⟩
                      · have m0 : (r4.err == 0) = false := by rw [hm]; rfl
                        have m1 : (r4.err == 3) = true := by rw [hm]; rfl
                        clear hm HM
                        go_wp2_with fail
                        refine HC.out.mono ?_
                        rintro e w11 ⟨rfl, hb5⟩
                        have HB6 := Lib.hid (HB5.out.trans (hb5.mono HB5.out.size))
                        clear hb5
                        go_wp2_with fail
                        go_ret
                        exact ⟨rfl, HB6.out⟩
                      · have m0 : (r4.err == 0) = false := by rw [hm]; rfl
                        have m1 : (r4.err == 3) = false := by rw [hm]; rfl
                        have m2 : (r4.err == 22) = true := by rw [hm]; rfl
                        clear hm HM
                        go_wp2_with fail
                        refine HC.out.mono ?_
                        rintro e w11 ⟨rfl, hb5⟩
                        have HB6 := Lib.hid (HB5.out.trans (hb5.mono HB5.out.size))
                        clear hb5
                        go_wp2_with fail
                        go_ret
                        exact ⟨rfl, HB6.out⟩
                  · have p1 : decide ((lk : Int) < (li : Int)) = false := decide_eq_false (by omega)
                    have p2 : ¬ (lk : Int) < (li : Int) := by omega
                    by_cases heq : li = lk
                    · have p3 : ((li : Int) == (lk : Int)) = true := by rw [beq_iff_eq]; omega
                      by_cases h4 : 4 < li
                      · have p4 : decide ((4 : Int) < (li : Int)) = true := decide_eq_true (by omega)
                        have p5 : (4 : Int) < (li : Int) := by omega
                        have HK := Lib.hid (HJ.out.2.1 (.inr ⟨heq, h4⟩))
                        clear HJ hgt heq h4
                        go_upto_region 22 with fail
                        clear q4
                        go_quiet (fail)
                        have hdr := drewN_below W9 nq
                        obtain ⟨WA, hWA⟩ : ∃ W, W9.drewN nq = W := ⟨_, rfl⟩
                        rw [hWA] at hdr ⊢
                        replace HB3 := Lib.hid (HB3.out.trans (hdr.mono HB3.out.size))
                        replace HY3 := Lib.hid (HY3.out.below hdr)
                        replace HX := Lib.hid (HX.out.below hdr)
                        replace d1 : True := trivial
                        replace d2 : True := trivial
                        replace l1 : True := trivial
                        clear hWA hdr
                        go_upto_region 24 with fail
                        clear p1 p2 p3 p4 p5
                        go_wp2_with fail
                        refine (p_parse_t sL _ HY3.out).mono ?_
                        rintro e w10 ⟨hb4, s5, rfl, hi⟩
                        have HB4 := Lib.hid (HB3.out.trans (hb4.mono HB3.out.size))
                        have HX4 := Lib.hid (HX.out.below hb4)
                        have HI := Lib.hid hi
                        clear hb4 hi HB3 HX HY3 d1 d2 l1
                        generalize ParseV sL.data.toList = r5 at *
                        unfold exOf exV
                        go_upto_region 25 with fail
                        all_goals
                          obtain ⟨W10, hW10⟩ : ∃ W, w10.alloc (exObj r5.tree s5) = W := ⟨_, rfl⟩
                          have hbx := below_one' (w := w10) (exObj r5.tree s5)
                          have HZ : Hid (InBox W10 w10.heap.size r5.tree s5) := Lib.hid (by rw [← hW10]; exact InBox.new HI.out)
                          rw [hW10] at hbx
                          have HB5 := Lib.hid (HB4.out.trans (hbx.mono HB4.out.size))
                          have HX5 := Lib.hid (HX4.out.below hbx)
                          unfold exObj at hW10
                          try rw [hW10]
                          clear hW10 hbx HB4 HX4 HI
                          generalize w10.heap.size = bz at *
                          obtain ⟨h1, h2, h3⟩ := HK.out
                          have e1 : (r4.err == r5.err) = true := by rw [beq_iff_eq]; exact h1
                          have HC := r_same_any false r4.tree r5.tree s4 s5 W10 HX5.out.tree HZ.out.tree
                          rw [(alike_er _ _).2 h2] at HC
                          unfold exOf exV at HC
                          replace HC := Lib.hid HC
                          obtain ⟨f0, f1, f2, f3, f4, f5, f6, f7, _⟩ := Box8.cells HX5.out.box
                          have fl := HX5.out.box.lt
                          obtain ⟨y0, y1, y2, y3, y4, y5, y6, y7, _⟩ := Box8.cells HZ.out.box
                          have gl := HZ.out.box.lt
                          have HM := Lib.hid h3
                          clear h1 h2 h3 HK
                          rcases HM.out with hm | hm | hm
                          · have m0 : (r4.err == 0) = true := by rw [hm]; rfl
                            clear hm HM
                            go_wp2_with fail
                            refine HC.out.mono ?_
                            rintro e w11 ⟨rfl, hb5⟩
                            have HB6 := Lib.hid (HB5.out.trans (hb5.mono HB5.out.size))
                            clear hb5
                            go_wp2_with fail
                            go_ret
                            exact ⟨rfl, HB6.out⟩
                          · have m0 : (r4.err == 0) = false := by rw [hm]; rfl
                            have m1 : (r4.err == 3) = true := by rw [hm]; rfl
                            clear hm HM
                            go_wp2_with fail
                            refine HC.out.mono ?_
                            rintro e w11 ⟨rfl, hb5⟩
                            have HB6 := Lib.hid (HB5.out.trans (hb5.mono HB5.out.size))
                            clear hb5
                            go_wp2_with fail
                            go_ret
                            exact ⟨rfl, HB6.out⟩
                          · have m0 : (r4.err == 0) = false := by rw [hm]; rfl
                            have m1 : (r4.err == 3) = false := by rw [hm]; rfl
                            have m2 : (r4.err == 22) = true := by rw [hm]; rfl
                            clear hm HM
                            go_wp2_with fail
                            refine HC.out.mono ?_
                            rintro e w11 ⟨rfl, hb5⟩
                            have HB6 := Lib.hid (HB5.out.trans (hb5.mono HB5.out.size))
                            clear hb5
                            go_wp2_with fail
                            go_ret
                            exact ⟨rfl, HB6.out⟩
                      · have p4 : decide ((4 : Int) < (li : Int)) = false := decide_eq_false (by omega)
                        have p5 : ¬ (4 : Int) < (li : Int) := by omega
                        have HK := Lib.hid (HJ.out.2.2 (by omega) HN4)
                        clear HJ hgt heq h4
                        go_upto_region 22 with fail
                        clear q4
                        go_quiet (fail)
                        have hdr := drewN_below W9 nq
                        obtain ⟨WA, hWA⟩ : ∃ W, W9.drewN nq = W := ⟨_, rfl⟩
                        rw [hWA] at hdr ⊢
                        replace HB3 := Lib.hid (HB3.out.trans (hdr.mono HB3.out.size))
                        replace HY3 := Lib.hid (HY3.out.below hdr)
                        replace HX := Lib.hid (HX.out.below hdr)
                        replace d1 : True := trivial
                        replace d2 : True := trivial
                        replace l1 : True := trivial
                        clear hWA hdr
                        go_upto_region 24 with fail
                        clear p1 p2 p3 p4 p5
                        go_wp2_with fail
                        refine (p_parse_t sR _ HY3.out).mono ?_
                        rintro e w10 ⟨hb4, s5, rfl, hi⟩
                        have HB4 := Lib.hid (HB3.out.trans (hb4.mono HB3.out.size))
                        have HX4 := Lib.hid (HX.out.below hb4)
                        have HI := Lib.hid hi
                        clear hb4 hi HB3 HX HY3 d1 d2 l1
                        generalize ParseV sR.data.toList = r5 at *
                        unfold exOf exV
                        go_upto_region 25 with fail
                        all_goals
                          obtain ⟨W10, hW10⟩ : ∃ W, w10.alloc (exObj r5.tree s5) = W := ⟨_, rfl⟩
                          have hbx := below_one' (w := w10) (exObj r5.tree s5)
                          have HZ : Hid (InBox W10 w10.heap.size r5.tree s5) := Lib.hid (by rw [← hW10]; exact InBox.new HI.out)
                          rw [hW10] at hbx
                          have HB5 := Lib.hid (HB4.out.trans (hbx.mono HB4.out.size))
                          have HX5 := Lib.hid (HX4.out.below hbx)
                          unfold exObj at hW10
                          try rw [hW10]
                          clear hW10 hbx HB4 HX4 HI
                          generalize w10.heap.size = bz at *
                          obtain ⟨h1, h2, h3⟩ := HK.out
                          have e1 : (r4.err == r5.err) = true := by rw [beq_iff_eq]; exact h1
                          have HC := r_same_any false r4.tree r5.tree s4 s5 W10 HX5.out.tree HZ.out.tree
                          rw [(alike_er _ _).2 h2] at HC
                          unfold exOf exV at HC
                          replace HC := Lib.hid HC
                          obtain ⟨f0, f1, f2, f3, f4, f5, f6, f7, _⟩ := Box8.cells HX5.out.box
                          have fl := HX5.out.box.lt
                          obtain ⟨y0, y1, y2, y3, y4, y5, y6, y7, _⟩ := Box8.cells HZ.out.box
                          have gl := HZ.out.box.lt
                          have HM := Lib.hid h3
                          clear h1 h2 h3 HK
                          rcases HM.out with hm | hm | hm
                          · have m0 : (r4.err == 0) = true := by rw [hm]; rfl
                            clear hm HM
                            go_wp2_with fail
                            refine HC.out.mono ?_
                            rintro e w11 ⟨rfl, hb5⟩
                            have HB6 := Lib.hid (HB5.out.trans (hb5.mono HB5.out.size))
                            clear hb5
                            go_wp2_with fail
                            go_ret
                            exact ⟨rfl, HB6.out⟩
                          · have m0 : (r4.err == 0) = false := by rw [hm]; rfl
                            have m1 : (r4.err == 3) = true := by rw [hm]; rfl
                            clear hm HM
                            go_wp2_with fail
                            refine HC.out.mono ?_
                            rintro e w11 ⟨rfl, hb5⟩
                            have HB6 := Lib.hid (HB5.out.trans (hb5.mono HB5.out.size))
                            clear hb5
                            go_wp2_with fail
                            go_ret
                            exact ⟨rfl, HB6.out⟩
                          · have m0 : (r4.err == 0) = false := by rw [hm]; rfl
                            have m1 : (r4.err == 3) = false := by rw [hm]; rfl
                            have m2 : (r4.err == 22) = true := by rw [hm]; rfl
                            clear hm HM
                            go_wp2_with fail
                            refine HC.out.mono ?_
                            rintro e w11 ⟨rfl, hb5⟩
                            have HB6 := Lib.hid (HB5.out.trans (hb5.mono HB5.out.size))
                            clear hb5
                            go_wp2_with fail
                            go_ret
                            exact ⟨rfl, HB6.out⟩
                    · have p3 : ((li : Int) == (lk : Int)) = false := by rw [beq_eq_false_iff_ne]; omega
                      have HK := Lib.hid (HJ.out.2.2 (by omega) HN4)
                      clear HJ hgt heq
                      go_upto_region 22 with fail
                      clear q4
                      go_quiet (fail)
                      have hdr := drewN_below W9 nq
                      obtain ⟨WA, hWA⟩ : ∃ W, W9.drewN nq = W := ⟨_, rfl⟩
                      rw [hWA] at hdr ⊢
                      replace HB3 := Lib.hid (HB3.out.trans (hdr.mono HB3.out.size))
                      replace HY3 := Lib.hid (HY3.out.below hdr)
                      replace HX := Lib.hid (HX.out.below hdr)
                      replace d1 : True := trivial
                      replace d2 : True := trivial
                      replace l1 : True := trivial
                      clear hWA hdr
                      go_upto_region 24 with fail
                      clear p1 p2 p3
                      go_wp2_with fail
                      refine (p_parse_t sR _ HY3.out).mono ?_
                      rintro e w10 ⟨hb4, s5, rfl, hi⟩
                      have HB4 := Lib.hid (HB3.out.trans (hb4.mono HB3.out.size))
                      have HX4 := Lib.hid (HX.out.below hb4)
                      have HI := Lib.hid hi
                      clear hb4 hi HB3 HX HY3 d1 d2 l1
                      generalize ParseV sR.data.toList = r5 at *
                      unfold exOf exV
                      go_upto_region 25 with fail
                      all_goals
                        obtain ⟨W10, hW10⟩ : ∃ W, w10.alloc (exObj r5.tree s5) = W := ⟨_, rfl⟩
                        have hbx := below_one' (w := w10) (exObj r5.tree s5)
                        have HZ : Hid (InBox W10 w10.heap.size r5.tree s5) := Lib.hid (by rw [← hW10]; exact InBox.new HI.out)
                        rw [hW10] at hbx
                        have HB5 := Lib.hid (HB4.out.trans (hbx.mono HB4.out.size))
                        have HX5 := Lib.hid (HX4.out.below hbx)
                        unfold exObj at hW10
                        try rw [hW10]
                        clear hW10 hbx HB4 HX4 HI
                        generalize w10.heap.size = bz at *
                        obtain ⟨h1, h2, h3⟩ := HK.out
                        have e1 : (r4.err == r5.err) = true := by rw [beq_iff_eq]; exact h1
                        have HC := r_same_any false r4.tree r5.tree s4 s5 W10 HX5.out.tree HZ.out.tree
                        rw [(alike_er _ _).2 h2] at HC
                        unfold exOf exV at HC
                        replace HC := Lib.hid HC
                        obtain ⟨f0, f1, f2, f3, f4, f5, f6, f7, _⟩ := Box8.cells HX5.out.box
                        have fl := HX5.out.box.lt
                        obtain ⟨y0, y1, y2, y3, y4, y5, y6, y7, _⟩ := Box8.cells HZ.out.box
                        have gl := HZ.out.box.lt
                        have HM := Lib.hid h3
                        clear h1 h2 h3 HK
                        rcases HM.out with hm | hm | hm
                        · have m0 : (r4.err == 0) = true := by rw [hm]; rfl
                          clear hm HM
                          go_wp2_with fail
                          refine HC.out.mono ?_
                          rintro e w11 ⟨rfl, hb5⟩
                          have HB6 := Lib.hid (HB5.out.trans (hb5.mono HB5.out.size))
                          clear hb5
                          go_wp2_with fail
                          go_ret
                          exact ⟨rfl, HB6.out⟩
                        · have m0 : (r4.err == 0) = false := by rw [hm]; rfl
                          have m1 : (r4.err == 3) = true := by rw [hm]; rfl
                          clear hm HM
                          go_wp2_with fail
                          refine HC.out.mono ?_
                          rintro e w11 ⟨rfl, hb5⟩
                          have HB6 := Lib.hid (HB5.out.trans (hb5.mono HB5.out.size))
                          clear hb5
                          go_wp2_with fail
                          go_ret
                          exact ⟨rfl, HB6.out⟩
                        · have m0 : (r4.err == 0) = false := by rw [hm]; rfl
                          have m1 : (r4.err == 3) = false := by rw [hm]; rfl
                          have m2 : (r4.err == 22) = true := by rw [hm]; rfl
                          clear hm HM
                          go_wp2_with fail
                          refine HC.out.mono ?_
                          rintro e w11 ⟨rfl, hb5⟩
                          have HB6 := Lib.hid (HB5.out.trans (hb5.mono HB5.out.size))
                          clear hb5
                          go_wp2_with fail
                          go_ret
                          exact ⟨rfl, HB6.out⟩
            · have q3 : (r3.err != 0) = true := by rw [bne_iff_ne]; exact e3
              clear e1 e2 e3 HJ
              go_wp2_with fail
              go_ret
              exact ⟨rfl, HB1.out⟩
          · have q2 : (r2.err != 0) = true := by rw [bne_iff_ne]; exact e2
            clear e1 e2 HJ
            go_wp2_with fail
            go_ret
            exact ⟨rfl, HB1.out⟩
        · have q1 : (r1.err != 0) = true := by rw [bne_iff_ne]; exact e1
          clear e1 HJ
          go_wp2_with fail
          go_ret
          exact ⟨rfl, HB1.out⟩
end Go.Proofs.YtecpldnjpapalaaDoor
