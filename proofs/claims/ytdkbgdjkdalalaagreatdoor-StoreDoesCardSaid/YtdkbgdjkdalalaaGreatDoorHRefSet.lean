/-
  The walks of the document's own answer's Set and New.
-/
import Derived.Test.YtdkbgdjkdalalaaGreatDoorHRefFree
namespace Go.Proofs.YtdkbgdjkdalalaaGreatDoor
open Go.RowKit
theorem obCells_set {P : List (Ob × Value)} {k : Nat} {o o' : Ob} {vf v : Value} (h : P[k]? = some (o, vf)) (h1 : o'.at_ = o.at_) (h2 : o'.kind = o.kind) : (obCells P).set (k * 3 + 2) v = obCells (P.set k (o', v)) := by
  induction P generalizing k with
  | nil => cases h
  | cons p P ih =>
    cases k with
    | zero =>
      obtain rfl : p = (o, vf) := by simpa using h
      simp [obCells, h1, h2]
    | succ k =>
      rw [show (k + 1) * 3 + 2 = k * 3 + 2 + 1 + 1 + 1 by omega]
      simp only [obCells, List.set_cons_succ]
      rw [ih (by simpa using h)]
theorem put_list {L : List Ob} {k : Nat} {o' : Ob} (h : k < L.length) : L.take k ++ o' :: L.drop (k + 1) = L.set k o' := (List.set_eq_take_append_cons_drop.trans (if_pos h)).symm
/-- One object's row of fields is set anew. -/
theorem set_close {w w2 : World} {r g n cap f k1 k j x : Nat} {S : Nat → Prop} {m : Nat} {P : List (Ob × Value)} {o : Ob} {vf : Value} (hSr : S r) (hd : w.heap[r]? = some (.cells #[.int .i64 (m : Int), .slice (some ⟨g, 0, none⟩) n cap] 56 (0, 0)))
    (hrow : RowIn w S 53 3 (.slice (some ⟨g, 0, none⟩) n cap) P.length (obCells P)) (hf : FieldsIn w S P) (hp : P[k]? = some (o, vf)) (hb : Below w.heap.size w w2) (hw : Words w2 33 f k1 (o.fs.set j x)) (hfn : w.heap.size ≤ f) :
    RStep r S m ((P.map (·.1)).take k ++ o.put j x :: (P.map (·.1)).drop (k + 1)) w (w2.setCell ⟨g, k * 3 + 2, none⟩ (.slice (some ⟨f, 0, none⟩) o.fs.length k1)) := by
  have hkl : k < P.length := (List.getElem?_eq_some_iff.1 hp).1
  have hgl := (World.ownsRow.lt hrow.1 g rfl).2
  have hrl := lt_of_heap hd
  have hd2 := (hb.block r hrl).trans hd
  have hrow2 := hrow.keep (w' := w2) fun b hl _ => hb.block b hl
  obtain ⟨cur, _, hg2, _⟩ : ∃ cur, 0 ≤ g ∧ w2.heap[g]? = some (.cells cur 53 (0, 0)) ∧ True := by
    rcases hrow2.1.2 with ⟨he, _⟩ | ⟨g', cap', cur, he, hr⟩
    · cases he
    · simp only [Value.slice.injEq, Option.some.injEq, Addr.mk.injEq, and_true] at he
      obtain ⟨rfl, _⟩ := he
      exact ⟨cur, Nat.zero_le _, hr.2.1, trivial⟩
  have hst := hrow2.1
  have hSg := hrow.2 g rfl
  obtain rfl : n = P.length := by
    rcases hrow2.1.2 with ⟨he, _⟩ | ⟨g', cap', cur, he, hr⟩
    · cases he
    · simp only [Value.slice.injEq] at he
      exact he.2.1
  have hst2 := (World.ownsRow.stored hst (k * 3 + 2) (.slice (some ⟨f, 0, none⟩) o.fs.length k1)).1
  rw [obCells_set (o' := o.put j x) hp rfl rfl] at hst2
  rw [put_list (by rw [List.length_map]; exact hkl), ← List.map_set (f := (·.1)) (a := (o.put j x, Value.slice (some ⟨f, 0, none⟩) o.fs.length k1))]
  refine ⟨⟨.inl hSr, .slice (some ⟨g, 0, none⟩) P.length cap, P.set k (o.put j x, .slice (some ⟨f, 0, none⟩) o.fs.length k1), rfl, ?_, ⟨?_, ?_⟩, fun p hpm => ?_⟩, (Turned.of_below hb).setCell ⟨g, k * 3 + 2, none⟩ _ hSg⟩
  · rw [heap_setCell_other w2 _ r _ (blocks_ne hd2 hg2 (by decide))]; exact hd2
  · rw [List.length_set]; exact hst2
  · intro q hq
    have h3 : g = q := by simpa [Value.ownBlock] using hq
    rw [← h3]; exact .inl hSg
  · rcases List.mem_or_eq_of_mem_set hpm with hpm | rfl
    · refine RowIn.off (((hf p hpm).keep (w' := w2) fun b hl _ => hb.block b hl).mono (T := fun b => S b ∨ w.heap.size ≤ b) fun _ hS => .inl hS) fun b cur' hc hS => ⟨heap_setCell_other w2 _ b _ (blocks_ne hc hg2 (by decide)), hS⟩
    · have hw2 : RowIn w2 (fun b => S b ∨ w.heap.size ≤ b) 33 1 (.slice (some ⟨f, 0, none⟩) o.fs.length k1) (o.fs.set j x).length (u64s (o.fs.set j x)) := by
        refine ⟨?_, fun q hq => ?_⟩
        · have h4 := hw
          unfold Words at h4
          rw [List.length_set] at h4 ⊢
          exact h4
        · have h3 : f = q := by simpa [Value.ownBlock] using hq
          rw [← h3]; exact .inr hfn
      exact RowIn.off hw2 fun b cur' hc hS => ⟨heap_setCell_other w2 _ b _ (blocks_ne hc hg2 (by decide)), hS⟩
theorem hSet_no {L : List Ob} {a : Int} (i : Int) (x : Nat) (h : a < 0 ∨ findOb L a.toNat = none) : hSet L a i x = (7, L) := by
  unfold hSet
  split
  · rfl
  · rcases h with h | h
    · omega
    · rw [h]
theorem hSet_at {L : List Ob} {n : Nat} {o : Ob} (i : Int) (x : Nat) (h : findOb L n = some o) : hSet L (n : Int) i x = if i < 0 ∨ (o.fs.length : Int) ≤ i then (2, L) else (0, setOb L n i.toNat x) := by
  unfold hSet
  rw [if_neg (by omega), Int.toNat_natCast, h]
set_option maxHeartbeats 2000000 in
set_option maxRecDepth 100000 in
theorem ref_Set (r : Nat) (S : Nat → Prop) (m : Nat) (L : List Ob) (a i : Int) (x : Nat) (w : World) (h : RefAt w r S m L) (hl : Lies m 1 L) (hn : L.length ≤ 65536) (hf : ∀ o ∈ L, o.fs.length ≤ 65536) :
    Calls Tryz.prog 72 #[.pointer (some ⟨r, 0, none⟩), .int .i64 a, .int .i64 i, .int .u64 (x : Int)] w (RFree r S m (hSet L a i x) w) := by
  obtain ⟨i0, hi0, hz0, hz1, hz2⟩ := info_parts info30
  have hrl := h.lt
  have H := Lib.hid h
  have HL := Lib.hid hl
  have HFL := Lib.hid hf
  obtain ⟨hSr, v, P, hP, hd, hrow, hfl⟩ := h
  clear hl hf
  have c1 : w.cell? ⟨r, 1, none⟩ = some v := by rw [Lib.cell_of_heap hd]; rfl
  have HD := Lib.hid hd
  have HF := Lib.hid hfl
  have HP := Lib.hid hP
  clear hd hfl hP
  go_enter Tryz.func72, Tryz.ntmps72
  go_wp2_with fail
  refine (ref_Find r S m L a _ H.out hn).mono ?_
  rintro e w' ⟨rfl, hfi⟩
  rcases hfi with ⟨rfl, hno⟩ | ⟨k, o, rfl, ho, ha⟩
  · have HV := Lib.hid (hSet_no i x (find_not hno))
    clear hno
    go_wp2_with fail
    go_ret
    exact ⟨by rw [HV.out]; rfl, by rw [HV.out]; exact RStep.stay H.out⟩
  · subst ha
    have hfa := find_at HL.out ho
    have hv := hSet_at i x hfa.1
    rw [hfa.2.2] at hv
    have hkl : k < L.length := (List.getElem?_eq_some_iff.1 ho).1
    have hPL : P.length = L.length := by rw [← HP.out, List.length_map]
    have g0 : decide ((k : Int) < 0) = false := by rw [decide_eq_false_iff_not]; omega
    have hol := HFL.out o (List.mem_of_getElem? ho)
    obtain ⟨vf, hp⟩ : ∃ vf, P[k]? = some (o, vf) := by
      rw [← HP.out, List.getElem?_map] at ho
      cases hq : P[k]? with
      | none => rw [hq] at ho; cases ho
      | some p => rw [hq] at ho; exact ⟨p.2, by rw [← Option.some.inj ho]⟩
    obtain ⟨e0, e1, e2⟩ := obCells_at hp
    have hvf := HF.out _ (List.mem_of_getElem? hp)
    have HPK := Lib.hid hp
    clear hfa ho hp
    rcases hrow.1.2 with ⟨_, h0⟩ | ⟨g, cap, cur, rfl, hr⟩
    · omega
    · have hcap := hr.2.2.1
      have hgl := (World.ownsRow.lt hrow.1 g rfl).2
      have d2 : w.cell? ⟨g, k * 3 + 2, none⟩ = some vf := by rw [World.ownsRow.cellAt hrow.1 _ (by omega)]; exact e2
      have HRW := Lib.hid hrow
      clear hrow hr e0 e1 e2
      rw [hPL] at hcap c1
      by_cases hi0' : i < 0
      · rw [if_pos (.inl hi0')] at hv
        have HV := Lib.hid hv
        have g1 : decide (i < 0) = true := by rw [decide_eq_true_iff]; exact hi0'
        clear hv hi0' hvf
        go_wp2_with fail
        go_ret
        exact ⟨by rw [HV.out]; rfl, by rw [HV.out]; exact RStep.stay H.out⟩
      · obtain ⟨j, rfl⟩ := Int.eq_ofNat_of_zero_le (show 0 ≤ i by omega)
        have g1 : decide ((j : Int) < 0) = false := by rw [decide_eq_false_iff_not]; omega
        by_cases hj : j < o.fs.length
        · rw [if_neg (by omega), Int.toNat_natCast] at hv
          rcases hvf.1.2 with ⟨_, h0⟩ | ⟨f, cf, cur', hvv, hr'⟩
          · have h0' : o.fs.length = 0 := h0
            omega
          · have hvv' : vf = .slice (some ⟨f, 0, none⟩) o.fs.length cf := hvv
            subst hvv'
            have HV := Lib.hid hv
            have g3 : decide ((o.fs.length : Int) ≤ (j : Int)) = false := by rw [decide_eq_false_iff_not]; omega
            have hfl := (World.ownsRow.lt hvf.1 f rfl).2
            have hown : Hid ((w.alloc (.cells #[] 33)).ownsRow 0 33 1 (.slice (some ⟨w.heap.size, 0, none⟩) 0 0) 0 []) := Lib.hid (World.ownsRow_made w #[] 0 (Nat.zero_le _) (Nat.zero_le _) rfl)
            have hsrc : Hid (∀ j u, (u64s o.fs)[j]? = some u → (w.alloc (.cells #[] 33)).cell? ((⟨f, 0, none⟩ : Addr).add j) = some u) := Lib.hid (fun j u hu => by
              have h := World.ownsRow.cells hvf.1 (g := f) rfl j u hu
              refine (World.cell?_of_block (w := w) ?_).trans h
              have hb : ((⟨f, 0, none⟩ : Addr).add j).block = f := by unfold Addr.add; split <;> rfl
              rw [hb]
              exact Below.heap_alloc w _ f hfl)
            have hlen1 : (u64s o.fs).length = o.fs.length * 1 := by rw [u64s_len]; omega
            have hone1 := Lib.hid (u64s_one o.fs)
            clear hv hi0' hvf hr'
            go_wp2_with (at_builtin; refine wpList_append_own_at _ rfl (.tmp 31) (.tmp 39) 28 rfl 0 33 i0 _ 1 8 Tryz.underlying28 hi0 hz0 hz1 hz2 rfl (by decide) _ _ _ rfl hown.out ⟨f, 0, none⟩ o.fs.length cf (u64s o.fs) rfl hlen1 hsrc.out hone1.out (by unfold maxLen; omega) (by omega) (Nat.zero_le _) ?_)
            intro v1 w1 hown1 hgr1 hnn1 hat1
            have hB1 := below_of_grown hgr1
            have hz1' := hB1.size
            obtain ⟨f1, k1, rfl⟩ : ∃ f1 k1, v1 = .slice (some ⟨f1, 0, none⟩) o.fs.length k1 := by
              rcases hown1.2 with ⟨h, _⟩ | ⟨g', k', _, h, _⟩
              · exact (hnn1 h).elim
              · exact ⟨g', k', h⟩
            have hX1 : w.heap.size ≤ f1 := by simp [Value.ownBlock] at hat1; omega
            have hf1 := (World.ownsRow.lt hown1 f1 rfl).2
            have hw1 : Words w1 33 f1 k1 o.fs := hown1
            have hw2 := hw1.set j x
            have c2 := (hB1.cell (p := ⟨r, 1, none⟩) hrl).trans c1
            have d3 := (hB1.cell (p := ⟨g, k * 3 + 2, none⟩) hgl).trans d2
            have z1 := hw1.cell j hj
            have z2 := hw1.frozen j
            have hrow1 := HRW.out.keep (w' := w1) fun b hl _ => hB1.block b hl
            have z3 : w1.frozen? ⟨g, k * 3 + 2, none⟩ = false := World.ownsRow.frozenAt hrow1.1 _
            have hB2 : Below w.heap.size w (w1.setCell ⟨f1, j, none⟩ (.int .u64 (x : Int))) := hB1.setCell (p := ⟨f1, j, none⟩) hX1 _
            have hfin := set_close (m := m) (j := j) (x := x) hSr HD.out HRW.out HF.out HPK.out hB2 hw2.1 hX1
            rw [HP.out] at hfin
            have HFIN := Lib.hid hfin
            have n1 : r ≠ f1 := by omega
            have n2 : g ≠ f1 := by omega
            clear hown1 hgr1 hnn1 hat1 hB1 hown hsrc hone1 hlen1 hw1 hw2 hrow1 hB2 hfin
            go_wp2_with fail
            go_ret
            exact ⟨by rw [HV.out]; rfl, by rw [HV.out]; exact HFIN.out⟩
        · rw [if_pos (by omega)] at hv
          rcases hvf.view with ⟨F, cf, hvv, _⟩
          have hvv' : vf = .slice F o.fs.length cf := hvv
          subst hvv'
          have HV := Lib.hid hv
          have g3 : decide ((o.fs.length : Int) ≤ (j : Int)) = true := by rw [decide_eq_true_iff]; omega
          clear hv hi0' hvf
          go_wp2_with fail
          go_ret
          exact ⟨by rw [HV.out]; rfl, by rw [HV.out]; exact RStep.stay H.out⟩
end Go.Proofs.YtdkbgdjkdalalaaGreatDoor
