/-
  The walk of the document's own answer's Free.
-/
import Derived.Test.YtdkbgdjkdalalaaGreatDoorHRefGet
import Derived.Test.YtdkbgdjkdalalaaGreatDoorHCopy
namespace Go.Proofs.YtdkbgdjkdalalaaGreatDoor
open Go.RowKit
theorem infoObj : (Tryz.prog.info? 53).map (fun i => (i.zero, i.size, i.bytes)) = some (some (.agg #[.int .i64 0, .int .i64 0, .slice none 0 0]), 3, 40) := by kernel_rfl
/-- Behind a call on the document's own heap at r, whose blocks were among S. -/
def RStep (r : Nat) (S : Nat → Prop) (m : Nat) (L : List Ob) (w w' : World) : Prop := RefAt w' r (fun b => S b ∨ w.heap.size ≤ b) m L ∧ Turned S w w'
theorem RStep.stay {r : Nat} {S : Nat → Prop} {m : Nat} {L : List Ob} {w : World} (h : RefAt w r S m L) : RStep r S m L w w := ⟨h.mono fun _ hb => .inl hb, Turned.refl _ _⟩
def RFree (r : Nat) (S : Nat → Prop) (m : Nat) (q : Int × List Ob) (w : World) (e : Ending) (w' : World) : Prop := e = .returned (.int .i64 q.1) ∧ RStep r S m q.2 w w'
theorem hFree_no {L : List Ob} {a : Int} (h : a < 0 ∨ findOb L a.toNat = none) : hFree L a = (7, L) := by
  unfold hFree
  split
  · rfl
  · rcases h with h | h
    · omega
    · rw [h]
theorem hFree_at {L : List Ob} {n : Nat} {o : Ob} (h : findOb L n = some o) : hFree L (n : Int) = (0, dropOb L n) := by
  unfold hFree
  rw [if_neg (by omega), Int.toNat_natCast, h]
/-- A row's own block stands where its type is another's. -/
theorem RowIn.off {w w' : World} {S T : Nat → Prop} {e : TypeId} {size : Nat} {v : Value} {n : Nat} {xs : List Value} (h : RowIn w S e size v n xs) (hk : ∀ b cur, w.heap[b]? = some (.cells cur e (0, 0)) → S b → w'.heap[b]? = w.heap[b]? ∧ T b) : RowIn w' T e size v n xs := by
  refine ⟨⟨h.1.1, ?_⟩, fun g hg => ?_⟩
  · rcases h.1.2 with hn | ⟨g, cap, cur, rfl, hr⟩
    · exact .inl hn
    · exact .inr ⟨g, cap, cur, rfl, hr.1, (hk g cur hr.2.1 (h.2 g rfl)).1.trans hr.2.1, hr.2.2⟩
  · rcases h.1.2 with ⟨rfl, _⟩ | ⟨g', cap, cur, rfl, hr⟩
    · cases hg
    · obtain rfl : g' = g := by simpa [Value.ownBlock] using hg
      exact (hk g' cur hr.2.1 (h.2 g' rfl)).2
theorem obCells_one {w : World} {S : Nat → Prop} {P : List (Ob × Value)} (h : FieldsIn w S P) : ∀ u ∈ obCells P, u.oneCell' = true := by
  induction P with
  | nil => intro u hu; cases hu
  | cons p P ih =>
    intro u hu
    simp only [obCells, List.mem_cons] at hu
    rcases hu with rfl | rfl | rfl | hu
    · rfl
    · rfl
    · obtain ⟨A, c, hv, _⟩ := (h p (by simp)).view
      rw [hv]; rfl
    · exact ih (fun q hq => h q (by simp [hq])) u hu
theorem u64_ne : (33 : TypeId) ≠ 56 := by decide
/-- The head's row is set anew. -/
theorem ref_close {w w2 : World} {r : Nat} {S : Nat → Prop} {m : Nat} {P : List (Ob × Value)} {v vo : Value} (hSr : S r) (hd : w.heap[r]? = some (.cells #[.int .i64 (m : Int), vo] 56 (0, 0))) (hb : Below w.heap.size w w2)
    (hrow : w2.ownsRow 0 53 3 v P.length (obCells P)) (hblk : ∀ g, v.ownBlock = some g → w.heap.size ≤ g) (hf : FieldsIn w2 (fun b => S b ∨ w.heap.size ≤ b) P) : RStep r S m (P.map (·.1)) w (w2.setCell ⟨r, 1, none⟩ v) := by
  have hd2 : w2.heap[r]? = some (.cells #[.int .i64 (m : Int), vo] 56 (0, 0)) := (hb.block r (lt_of_heap hd)).trans hd
  refine ⟨⟨.inl hSr, v, P, rfl, ?_, ?_, fun p hp => ?_⟩, (Turned.of_below hb).setCell ⟨r, 1, none⟩ v hSr⟩
  · rw [heap_setCell_same w2 r 1 _ _ v hd2]; rfl
  · refine RowIn.off (S := fun b => w.heap.size ≤ b) ⟨hrow, hblk⟩ fun b cur hc hS => ⟨heap_setCell_other w2 _ b v (blocks_ne hc hd2 (by decide)), .inr hS⟩
  · exact RowIn.off (hf p hp) fun b cur hc hS => ⟨heap_setCell_other w2 _ b v (blocks_ne hc hd2 (by decide)), hS⟩
theorem FieldsIn.below {w w2 : World} {S : Nat → Prop} {P : List (Ob × Value)} (h : FieldsIn w S P) (hb : Below w.heap.size w w2) : FieldsIn w2 (fun b => S b ∨ w.heap.size ≤ b) P :=
  fun p hp => ((h p hp).keep fun b hl _ => hb.block b hl).mono fun _ hS => .inl hS
/-- append to an owned row, the added row's address being any term. -/
theorem append_any {P : Program} (w : World) {ops : Array Oper} {rest : List Oper} {o : Oper} {a : Act} {Q : Exit → Act → World → Prop} (hgd : o.guard = none) (s x : Operand) (t : TypeId)
    (ho : o.op = .call { callee := .builtin .append, args := #[s, x], argTypes := #[t, t] })
    (base : Nat) (e : TypeId) (i : TypeInfo) (z : Value) (size bytes : Nat) (ht : P.underlying t = some (.slice e)) (hi : P.info? e = some i) (hz : i.zero = some z)
    (hsize : i.size = size) (hby : i.bytes = bytes) (hzs : z.cells.size = size) (hsz : 0 < size)
    (v : Value) (n : Nat) (xs : List Value) (hs : a.eval s = v) (hown : w.ownsRow base e size v n xs)
    (ao : Option Addr) (m c : Nat) (news : List Value) (hx : a.eval x = .slice ao m c) (hl : news.length = m * size) (hnews : ∃ ad, ao = some ad ∧ ∀ j u, news[j]? = some u → w.cell? (ad.add j) = some u) (h1 : ∀ u ∈ news, u.oneCell' = true)
    (h63 : n + m ≤ maxLen) (hbytes : (n + m) * bytes ≤ 140737488355328) (hbase : base ≤ w.heap.size)
    (h : ∀ v' w', w'.ownsRow base e size v' (n + m) (xs ++ news) → w.grownBy w' v.ownBlock → (v' = .slice none 0 0 ↔ v = .slice none 0 0 ∧ m = 0) → (v'.ownBlock = v.ownBlock ∨ v'.ownBlock = some w.heap.size) → wpList P ops Q rest (a.put o.dst v') w') :
    wpList P ops Q (o :: rest) a w := by
  obtain ⟨ad, rfl, hc⟩ := hnews
  exact wpList_append_own_at w hgd s x t ho base e i z size bytes ht hi hz hsize hby hzs hsz v n xs hs hown ad m c news hx hl hc h1 h63 hbytes hbase h
set_option maxHeartbeats 2000000 in
set_option maxRecDepth 100000 in
theorem ref_Free (r : Nat) (S : Nat → Prop) (m : Nat) (L : List Ob) (a : Int) (w : World) (h : RefAt w r S m L) (hl : Lies m 1 L) (hn : L.length ≤ 65536) :
    Calls Tryz.prog 80 #[.pointer (some ⟨r, 0, none⟩), .int .i64 a] w (RFree r S m (hFree L a) w) := by
  obtain ⟨i0, hi0, hz0, hz1, hz2⟩ := info_parts infoObj
  have hrl := h.lt
  have H := Lib.hid h
  have HL := Lib.hid hl
  obtain ⟨hSr, v, P, hP, hd, hrow, hfl⟩ := h
  clear hl
  have c1 : w.cell? ⟨r, 1, none⟩ = some v := by rw [Lib.cell_of_heap hd]; rfl
  have HD := Lib.hid hd
  have HF := Lib.hid hfl
  have HP := Lib.hid hP
  clear hd hfl hP
  go_enter Tryz.func80, Tryz.ntmps80
  go_wp2_with fail
  refine (ref_Find r S m L a _ H.out hn).mono ?_
  rintro e w' ⟨rfl, hfi⟩
  rcases hfi with ⟨rfl, hno⟩ | ⟨k, o, rfl, ho, ha⟩
  · have HV := Lib.hid (hFree_no (find_not hno))
    clear hno
    go_wp2_with fail
    go_ret
    exact ⟨by rw [HV.out]; rfl, by rw [HV.out]; exact RStep.stay H.out⟩
  · subst ha
    have hfa := find_at HL.out ho
    have hv := hFree_at hfa.1
    rw [hfa.2.1] at hv
    have HV := Lib.hid hv
    have hkl : k < L.length := (List.getElem?_eq_some_iff.1 ho).1
    have hPL : P.length = L.length := by rw [← HP.out, List.length_map]
    have g0 : decide ((k : Int) < 0) = false := by rw [decide_eq_false_iff_not]; omega
    clear hfa hv ho
    rcases hrow.1.2 with ⟨_, h0⟩ | ⟨g, cap, cur, rfl, hr⟩
    · omega
    · have hcap := hr.2.2.1
      have hcmax := hr.2.2.2.1
      have hgl := (World.ownsRow.lt hrow.1 g rfl).2
      have HRW := Lib.hid hrow
      clear hrow hr
      unfold maxLen at hcmax
      rw [hPL] at hcap c1
      have hown : Hid ((w.alloc (.cells #[] 53)).ownsRow 0 53 3 (.slice (some ⟨w.heap.size, 0, none⟩) 0 0) 0 []) := Lib.hid (World.ownsRow_made w #[] 0 (Nat.zero_le _) (Nat.zero_le _) rfl)
      have hsrc : Hid (∀ j u, (obCells (P.take k))[j]? = some u → (w.alloc (.cells #[] 53)).cell? ((⟨g, 0, none⟩ : Addr).add j) = some u) := Lib.hid (fun j u hu => by
        rw [← obCells_take] at hu
        have h := World.ownsRow.cells HRW.out.1 (g := g) rfl j u (by rw [List.getElem?_take] at hu; split at hu; exact hu; cases hu)
        refine (World.cell?_of_block (w := w) ?_).trans h
        have hb : ((⟨g, 0, none⟩ : Addr).add j).block = g := by unfold Addr.add; split <;> rfl
        rw [hb]
        exact Below.heap_alloc w _ g hgl)
      have hlen1 : (obCells (P.take k)).length = k * 3 := by rw [obCells_len, List.length_take, Nat.min_eq_left (by omega)]
      have hone1 : Hid (∀ u ∈ obCells (P.take k), u.oneCell' = true) := Lib.hid (obCells_one fun p hp => HF.out p (List.mem_of_mem_take hp))
      go_wp2_with (at_builtin; refine wpList_append_own_at _ rfl (.tmp 12) (.tmp 18) 54 rfl 0 53 i0 _ 3 40 Tryz.underlying54 hi0 hz0 hz1 hz2 rfl (by decide) _ _ _ rfl hown.out ⟨g, 0, none⟩ k cap (obCells (P.take k)) rfl hlen1 hsrc.out hone1.out (by unfold maxLen; omega) (by omega) (Nat.zero_le _) ?_)
      intro v1 w1 hown1 hgr1 hnn1 hat1
      have hB1 := below_of_grown hgr1
      have hz1' := hB1.size
      obtain ⟨g1, k1, rfl⟩ : ∃ g1 k1, v1 = .slice (some ⟨g1, 0, none⟩) k k1 := by
        rcases hown1.2 with ⟨h, _⟩ | ⟨g', k', _, h, _⟩
        · exact (hnn1 h).elim
        · exact ⟨g', k', h⟩
      have hX1 : w.heap.size ≤ g1 := by simp [Value.ownBlock] at hat1; omega
      have c2 := (hB1.cell (p := ⟨r, 1, none⟩) hrl).trans c1
      have HO1 := Lib.hid hown1
      have HB1 := Lib.hid hB1
      clear hown1 hgr1 hnn1 hat1 hB1 hown hsrc hone1 hlen1
      have q1 : k + 1 ≤ L.length := by omega
      have hlen2 : (obCells (P.drop (k + 1))).length = (L.length - (k + 1)) * 3 := by rw [obCells_len, List.length_drop, hPL]
      have hone2 : Hid (∀ u ∈ obCells (P.drop (k + 1)), u.oneCell' = true) := Lib.hid (obCells_one fun p hp => HF.out p (List.mem_of_mem_drop hp))
      have hsrc2 : Hid (∀ ad : Addr, (L.length - (k + 1) = 0 ∨ ad = ⟨g, (k + 1) * 3, none⟩) → ∀ j u, (obCells (P.drop (k + 1)))[j]? = some u → w1.cell? (ad.add j) = some u) := Lib.hid (fun ad had j u hu => by
        have hj := (List.getElem?_eq_some_iff.1 hu).1
        rw [hlen2] at hj
        rcases had with had | rfl
        · rw [had] at hj; omega
        · rw [← obCells_drop, List.getElem?_drop] at hu
          have h := World.ownsRow.cells HRW.out.1 (g := g) rfl _ u hu
          rw [Addr.add_lit] at h
          rw [Addr.add_lit, (HB1.out.cell (p := ⟨g, (k + 1) * 3 + j, none⟩) hgl)]
          simpa using h)
      have hbz : ((k + (L.length - (k + 1))) * 40 ≤ 140737488355328) := by omega
      go_upto_region 5 with fail
      go_wp2_with (at_builtin; refine append_any _ rfl (.tmp 21) (.tmp 28) 54 rfl 0 53 i0 _ 3 40 Tryz.underlying54 hi0 hz0 hz1 hz2 rfl (by decide) _ _ _ rfl HO1.out _ _ _ (obCells (P.drop (k + 1))) rfl ?_ ?_ hone2.out (by unfold maxLen; omega) ?_ (Nat.zero_le _) ?_)
      · exact hlen2
      · intro j u hu
        have h3 := hsrc2.out ⟨g, 0, none⟩ (.inl (by omega)) j u hu
        rw [Addr.add_lit] at h3
        simpa using h3
      · intro j u hu
        have h3 := hsrc2.out ⟨g, (k + 1) * 3, none⟩ (.inr rfl) j u hu
        rw [Addr.add_lit] at h3
        exact h3
      · exact hbz
      all_goals
        intro v2 w2 hown2 hgr2 hnn2 hat2
        obtain ⟨g2, n2, k2, rfl⟩ : ∃ g2 n2 k2, v2 = .slice (some ⟨g2, 0, none⟩) n2 k2 := by
          rcases hown2.2 with ⟨h, _⟩ | ⟨g', k', _, h, _⟩
          · exact (hnn2 h).elim
          · exact ⟨g', _, k', h⟩
        have hB2 : Below w.heap.size w w2 := HB1.out.grown hgr2 HB1.out.size (fun q hq => (show w.heap.size ≤ q from (show g1 = q by simpa [Value.ownBlock] using hq) ▸ hX1))
        have hblk : ∀ q, (Value.slice (some ⟨g2, 0, none⟩) n2 k2).ownBlock = some q → w.heap.size ≤ q := fun q hq => by
          rcases hat2 with h3 | h3
          · rw [h3] at hq; simp [Value.ownBlock] at hq; omega
          · rw [h3] at hq; have := Option.some.inj hq; omega
        have hlenP : (P.take k ++ P.drop (k + 1)).length = k + (L.length - (k + 1)) := by rw [List.length_append, List.length_take, List.length_drop, hPL, Nat.min_eq_left (by omega)]
        rw [← obCells_append, ← hlenP] at hown2
        have hmap : (P.take k ++ P.drop (k + 1)).map (·.1) = L.take k ++ L.drop (k + 1) := by rw [← HP.out, List.map_append, List.map_take, List.map_drop]
        have hfin := ref_close hSr HD.out hB2 hown2 hblk (FieldsIn.below (w := w) (S := S) (P := P.take k ++ P.drop (k + 1)) (fun p hp => HF.out p (by
          rcases List.mem_append.1 hp with hp | hp
          · exact List.mem_of_mem_take hp
          · exact List.mem_of_mem_drop hp)) hB2)
        rw [hmap] at hfin
        have HFIN := Lib.hid hfin
        have hd2 := (hB2.block r hrl).trans HD.out
        have c3 : w2.cell? ⟨r, 1, none⟩ = some (.slice (some ⟨g, 0, none⟩) P.length cap) := by rw [Lib.cell_of_heap hd2]; rfl
        have fz : w2.frozen? ⟨r, 1, none⟩ = false := Lib.frozen_of_heap hd2 1
        clear hown2 hgr2 hnn2 hat2 hB2 hblk hlenP hmap hfin hd2 HO1 hsrc2 hone2
        go_wp2_with fail
        go_ret
        exact ⟨by rw [HV.out]; rfl, by rw [HV.out]; exact HFIN.out⟩
end Go.Proofs.YtdkbgdjkdalalaaGreatDoor
