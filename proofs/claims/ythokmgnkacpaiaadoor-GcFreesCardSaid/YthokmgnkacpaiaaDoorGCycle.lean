/-
  The walk of 'cycle': a cycle while a script goes on.
-/
import Derived.Test.YthokmgnkacpaiaaDoorGLawS
import Derived.Test.YthokmgnkacpaiaaDoorGClos
namespace Go.Proofs.YthokmgnkacpaiaaDoor
open Go.RowKit
def Owns (F : Nat → Prop) (v : Value) (b : Nat) : Prop := F b ∨ v.ownBlock = some b
/-- In the midst of a cycle: the collector, beside what stands and the row of what was laid. -/
def CState (F : Nat → Prop) (g q m : Nat) (w wr : World) (v : Value) (D : List Nat) (s : GS) : Prop := GIn (Owns F v) wr g q m s ∧ IntRow wr (From w.heap.size) v D ∧ Stands F w wr ∧ w.heap.size ≤ wr.heap.size ∧ ∀ b, F b → b < w.heap.size
theorem CState.go {F : Nat → Prop} {g q m : Nat} {w wr w' : World} {v : Value} {D : List Nat} {s t : GS} (h : CState F g q m w wr v D s) (hs : GGo (Owns F v) g q m t wr w') : CState F g q m w w' v D t := by
  obtain ⟨h1, h2, h3, h4, h5⟩ := h
  refine ⟨hs.1, ⟨own_keep h2.1 fun b hb => hs.2.block b (World.ownsRow.lt h2.1 b hb).2 fun hn => hn (.inr hb), h2.2⟩, h3.trans (hs.2.mono fun b hn hF => hn (.inl hF)), Nat.le_trans h4 hs.2.size, h5⟩
theorem CState.drew {F : Nat → Prop} {g q m : Nat} {w wr : World} {v : Value} {D : List Nat} {s : GS} (h : CState F g q m w wr v D s) : CState F g q m w wr.drew v D s := by
  obtain ⟨h1, h2, h3, h4, h5⟩ := h
  exact ⟨h1.drew, RowIn.keep h2 fun _ _ _ => rfl, h3.drew, h4, h5⟩
theorem CState.push {F : Nat → Prop} {g q m : Nat} {w wr w' : World} {v v' : Value} {D : List Nat} {s : GS} {x : Nat} {ob : Obj} (h : CState F g q m w wr v D s) (ho : w'.ownsRow 0 3 1 v' (D.length + 1) (nums .i64 D ++ [.int .i64 (x : Int)])) (hg : (wr.alloc ob).grownBy w' v.ownBlock)
    (hat : v'.ownBlock = v.ownBlock ∨ v'.ownBlock = some (wr.alloc ob).heap.size) : CState F g q m w w' v' (D ++ [x]) s := by
  obtain ⟨⟨U, u1, u2, u3, u4⟩, h2, h3, h4, h5⟩ := h
  have hz : wr.heap.size + 1 ≤ w'.heap.size := by have := hg.size; simpa using this
  have hb : ∀ b, b < wr.heap.size → v.ownBlock ≠ some b → w'.heap[b]? = wr.heap[b]? := fun b hl hn => by
    rw [hg.block b (by simp; omega) (fun e => hn e.symm), Below.heap_alloc wr _ b hl]
  refine ⟨⟨U, u1.keep (by omega) fun b hl hU => hb b hl fun e => u2 b hU (.inr e), fun b hU hF => ?_, fun b hU => by have := u3 b hU; omega, fun b hF => ?_⟩, ⟨?_, fun b hbv => ?_⟩, ?_, by omega, h5⟩
  · rcases hF with hF | hF
    · exact u2 b hU (.inl hF)
    · rcases hat with hh | hh
      · exact u2 b hU (.inr (hh.symm.trans hF))
      · rw [hh] at hF
        have := Option.some.inj hF
        have := u3 b hU
        simp at *
        omega
  · rcases hF with hF | hF
    · have := u4 b (.inl hF); omega
    · exact (World.ownsRow.lt ho b hF).2
  · rw [← nums_snoc, List.length_append]
    exact ho
  · rcases hat with hh | hh
    · exact h2.2 b (hh.symm.trans hbv)
    · rw [hh] at hbv
      have := Option.some.inj hbv
      simp at this
      show w.heap.size ≤ b
      omega
  · refine ⟨hg.os.trans h3.os, hg.tape.trans h3.tape, hg.output.trans h3.output, by omega, fun b hl hn => ?_⟩
    rw [hb b (by omega) ?_]
    · exact h3.block b hl hn
    · intro e
      have : w.heap.size ≤ b := h2.2 b e
      omega
theorem CState.tab {F : Nat → Prop} {g q m : Nat} {w wr : World} {v : Value} {D : List Nat} {s : GS} (h : CState F g q m w wr v D s) (hT : Tab w) (hF : F 0) : Tab wr := hT.turned h.2.2.1 fun hn => hn hF
def CycIs (F : Nat → Prop) (g q m : Nat) (L : List Ob) (rs : List Nat) (w : World) (e : Ending) (w' : World) : Prop := ∃ v D t, e = .returned v ∧ CState F g q m w w' v D t ∧ KInv L rs D t ∧ t.ph = 0 ∧ D.length ≤ 200
set_option maxHeartbeats 4000000 in
set_option maxRecDepth 100000 in
theorem cycle_any (F : Nat → Prop) (g q m : Nat) (s : GS) (w : World) (h : GIn F w g q m s) (hp : s.ph = 0) (hT : Tab w) (hF : F 0) (A2 : Option Addr) (n2 c2 : Nat) (rs : List Nat) (hR : WordsAt w F A2 n2 rs) (hn2 : n2 ≤ 1000) (A3 : Option Addr) (n3 c3 : Nat) (hS : Script3 w F A3 n3) (hn3 : n3 ≤ 9223372036854775807) :
    Calls Tryd.prog 42 #[.pointer (some ⟨g, 0, none⟩), .slice A2 n2 c2, .slice A3 n3 c3] w (CycIs F g q m s.L rs w) := by
  obtain ⟨i0, hi0, hz0, hz1, hz2⟩ := info_parts infoInt
  have HT := Lib.hid hT
  have HF := Lib.hid hF
  have HS := Lib.hid hS
  have HFL : Hid (∀ b, F b → b < w.heap.size) := Lib.hid (by obtain ⟨U, _, _, _, u4⟩ := h; exact u4)
  have H0 : Hid (GIn (Owns F (.slice (some ⟨w.heap.size, 0, none⟩) 0 0)) (w.alloc (.cells #[] 3)) g q m s) := Lib.hid (h.more (below_one _) (fun b hb => hb.imp id fun he => by
    have := Option.some.inj he
    have : w.heap.size = b := this
    simp; omega))
  have HR : Hid (WordsAt (w.alloc (.cells #[] 3)) (Owns F (.slice (some ⟨w.heap.size, 0, none⟩) 0 0)) A2 n2 rs) := Lib.hid ⟨hR.1, hR.2.1, fun i hi => by
    obtain ⟨b, off, e1, e2, e3, e4⟩ := hR.2.2 i hi
    exact ⟨b, off, e1, by simp; omega, .inl e3, (World.cell?_of_block (w := w) (Below.heap_alloc w _ b e2)).trans e4⟩⟩
  have HROW : Hid (IntRow (w.alloc (.cells #[] 3)) (From w.heap.size) (.slice (some ⟨w.heap.size, 0, none⟩) 0 0) []) := Lib.hid ⟨⟨rfl, .inr ⟨w.heap.size, 0, #[], rfl, Nat.zero_le _, heap_alloc_new w _, Nat.le_refl _, by unfold maxLen; decide, rfl, rfl⟩⟩, fun g hg => by have := Option.some.inj hg; exact Nat.le_of_eq this⟩
  have HK := Lib.hid (KInv.begin h.inv rs hp)
  clear h hp hT hF hS hR
  go_enter Tryd.func42, Tryd.ntmps42
  go_wp2_with fail
  refine (v_Begin _ g q m s _ H0.out A2 n2 c2 rs HR.out (by omega)).mono ?_
  rintro e w2 ⟨rfl, h2⟩
  have HC : Hid (∃ t, CState F g q m w w2 (.slice (some ⟨w.heap.size, 0, none⟩) 0 0) [] t ∧ KInv s.L rs [] t) := Lib.hid ⟨_, by
    have hc0 : CState F g q m w (w.alloc (.cells #[] 3)) (.slice (some ⟨w.heap.size, 0, none⟩) 0 0) [] s := ⟨H0.out, HROW.out, Turned.of_below (below_one _), by simp, HFL.out⟩
    exact hc0.go h2, HK.out⟩
  clear h2 H0 HR HROW HK
  go_wp2_with fail
  go_loopw [8, 7] (fun vi vv wr => ∃ (i : Nat) (v : Value) (D : List Nat), i ≤ n3 ∧ i ≤ 200 ∧ D.length ≤ i ∧ vi = .int .i64 i ∧ v = vv ∧ Hid (∃ t, CState F g q m w wr v D t ∧ KInv s.L rs D t)) (fun vi _ _ => n3 - (intOf vi).toNat)
  case atStart => exact ⟨0, _, [], by omega, by omega, by simp, by go_num, rfl, HC⟩
  case round =>
    obtain ⟨i, vv, D, hin, hi4, hDl, rfl, rfl, HI⟩ := hrel
    clear HC
    obtain ⟨t, hcs, hki⟩ := HI.out
    have HCS := Lib.hid hcs
    have HKI := Lib.hid hki
    clear hcs hki HI
    have hcase : (i < n3 ∧ i < 200) ∨ n3 ≤ i ∨ (i < n3 ∧ 200 ≤ i) := by omega
    rcases hcase with ⟨hi1, hi2⟩ | hc
    · have g4 : decide ((i : Int) < (n3 : Int)) = true := decide_eq_true (by omega)
      have g5 : decide ((i : Int) < 200) = true := decide_eq_true (by omega)
      obtain ⟨st, b, off, rfl, hbl, hbF, e0, e1, e2, e3, e4, hsx, _⟩ := HS.out i hi1
      have hst := HCS.out.2.2.1
      have k0 := (hst.cell (p := ⟨b, off + i * 5, none⟩) hbF hbl).trans e0
      have k1 := (hst.cell (p := ⟨b, off + i * 5 + 1, none⟩) hbF hbl).trans e1
      have k2 := (hst.cell (p := ⟨b, off + i * 5 + 2, none⟩) hbF hbl).trans e2
      have k3 := (hst.cell (p := ⟨b, off + i * 5 + 3, none⟩) hbF hbl).trans e3
      have hbr : b < wr.heap.size := Nat.lt_of_lt_of_le hbl HCS.out.2.2.2.1
      have g6 : (0 : Int) ≤ (i : Int) := by omega
      have g7 : (i : Int) < (n3 : Int) := by omega
      clear hst e0 e1 e2 e3 e4
      by_cases hk : st.k = 0
      · have B0 : (st.k == 0) = true := by simp [hk]
        clear hk
        have hka := HKI.out.alloc HCS.out.1.inv st.a st.b
        obtain ⟨ad, hadn⟩ : ∃ ad : Nat, (t.alloc m st.a st.b).1 = (ad : Int) := by
          rcases alloc_facts st.a st.b HCS.out.1.inv.lies with ⟨e, he, ha⟩ | ⟨a, kk, nn, L', ha, _⟩
          · exact ⟨0, by unfold GS.alloc; rw [ha, if_neg he]; rfl⟩
          · exact ⟨a, by unfold GS.alloc; rw [ha, if_pos rfl]⟩
        have HKA : Hid (KInv s.L rs (if (t.alloc m st.a st.b).2.1 = 0 then D ++ [ad] else D) (t.alloc m st.a st.b).2.2) := Lib.hid (by
          unfold laidBy at hka
          rw [hadn, Int.toNat_natCast] at hka
          exact hka)
        have HAL := Lib.hid (fun (W : World) (hW : GIn (Owns F vv) W g q m t) => by
          have := v_Alloc (Owns F vv) g q m t W hW st.a st.b
          rw [hadn] at this
          exact this)
        clear hka hadn
        generalize t.alloc m st.a st.b = z at *
        obtain ⟨z1, z2, z3⟩ := z
        simp only at *
        go_upto_region 10 with fail
        have g8 : IntKind.i64.wrap (i : Int) = (i : Int) := by rw [IntKind.wrap_i64]; omega
        go_region_held3 (fun W => W.cell? ⟨b, off + i * 5 + 1, none⟩ = some (.int .i64 st.a) ∧ W.cell? ⟨b, off + i * 5 + 2, none⟩ = some (.int .i64 st.b)) (go_keep) ((go_at_call 25; refine (HAL.out _ ?_).mono ?_; exact HCS.out.1.drew; rintro e w5 ⟨rfl, hs5⟩; have H5 := Lib.hid hs5; clear hs5; have j1 := (H5.out.2.cell (p := ⟨b, off + i * 5 + 1, none⟩) (.inl hbF) hbr).trans k1; have j2 := (H5.out.2.cell (p := ⟨b, off + i * 5 + 2, none⟩) (.inl hbF) hbr).trans k2))
        have HC5 : Hid (CState F g q m w w5 vv D z3) := Lib.hid (HCS.out.drew.go H5.out)
        clear g8 H5 k0 k1 k2 k3
        by_cases hz : z2 = 0
        · subst hz
          rw [if_pos rfl] at HKA
          have hDl2 : D.length ≤ 200 := by omega
          have hown : Hid ((w5.alloc (.cells #[.int .i64 (ad : Int)] 3)).ownsRow 0 3 1 vv D.length (nums .i64 D)) := Lib.hid (HC5.out.2.1.1.alloc _)
          have hsrc := Lib.hid (one_src w5 ad)
          have hone := Lib.hid (one_cell ad)
          go_wp2_with (at_builtin; refine wpList_append_own_at _ rfl (.tmp 54) (.tmp 56) 61 rfl 0 3 i0 _ 1 8 Tryd.underlying61 hi0 hz0 hz1 hz2 rfl (by decide) _ _ _ rfl hown.out ⟨w5.heap.size, 0, none⟩ 1 1 [.int .i64 (ad : Int)] rfl rfl hsrc.out hone.out (by unfold maxLen; omega) (by omega) (Nat.zero_le _) ?_)
          intro v1 w6 hown1 hgr1 hnn1 hat1
          have HN : Hid (∃ t, CState F g q m w w6 v1 (D ++ [ad]) t ∧ KInv s.L rs (D ++ [ad]) t) := Lib.hid ⟨_, HC5.out.push hown1 hgr1 (by simpa using hat1), HKA.out⟩
          clear hown1 hgr1 hnn1 hat1 hown hsrc hone
          go_wp2_with fail
          go_roundw
          case rel => exact ⟨i + 1, _, _, by omega, by omega, by simp; omega, by go_num, rfl, HN⟩
          case measure => simp [intOf]; omega
        · rw [if_neg hz] at HKA
          have B1 : (z2 == 0) = false := by rw [beq_eq_false_iff_ne]; exact hz
          have HN : Hid (∃ t, CState F g q m w w5 vv D t ∧ KInv s.L rs D t) := Lib.hid ⟨_, HC5.out, HKA.out⟩
          clear hz
          go_wp2_with fail
          go_roundw
          case rel => exact ⟨i + 1, _, D, by omega, by omega, by omega, by go_num, rfl, HN⟩
          case measure => simp [intOf]; omega
      · have B0 : (st.k == 0) = false := by simp [hk]
        by_cases hk1 : st.k = 1
        · have B1 : (st.k == 1) = true := by simp [hk1]
          clear hk hk1
          go_upto_region 14 with fail
          have g8 : IntKind.i64.wrap (i : Int) = (i : Int) := by rw [IntKind.wrap_i64]; omega
          go_region_held3 (fun W => W.cell? ⟨b, off + i * 5 + 1, none⟩ = some (.int .i64 st.a) ∧ W.cell? ⟨b, off + i * 5 + 2, none⟩ = some (.int .i64 st.b) ∧ W.cell? ⟨b, off + i * 5 + 3, none⟩ = some (.int .u64 (st.x : Int))) (go_keep) ((go_at_call 27; refine (v_Write (Owns F vv) g q m t _ ?_ st.a st.b st.x hsx).mono ?_; exact HCS.out.1.drew; rintro e w5 ⟨rfl, hs5⟩; have H5 := Lib.hid hs5; clear hs5; have j1 := (H5.out.2.cell (p := ⟨b, off + i * 5 + 1, none⟩) (.inl hbF) hbr).trans k1; have j2 := (H5.out.2.cell (p := ⟨b, off + i * 5 + 2, none⟩) (.inl hbF) hbr).trans k2; have j3 := (H5.out.2.cell (p := ⟨b, off + i * 5 + 3, none⟩) (.inl hbF) hbr).trans k3))
          have HN : Hid (∃ t, CState F g q m w w5 vv D t ∧ KInv s.L rs D t) := Lib.hid ⟨_, HCS.out.drew.go H5.out, HKI.out.write st.a st.b st.x⟩
          clear g8 H5 k0 k1 k2 k3
          go_wp2_with fail
          go_roundw
          case rel => exact ⟨i + 1, _, D, by omega, by omega, by omega, by go_num, rfl, HN⟩
          case measure => simp [intOf]; omega
        · have B1 : (st.k == 1) = false := by simp [hk1]
          clear hk hk1
          have HPH := Lib.hid (v_Phase _ g q m t _ HCS.out.1)
          by_cases hp : t.ph = 0
          · rw [hp] at HPH
            have HN : Hid (∃ t, CState F g q m w wr vv D t ∧ KInv s.L rs D t) := Lib.hid ⟨t, HCS.out, HKI.out⟩
            clear hp
            go_wp2_with fail
            refine HPH.out.mono ?_
            rintro e w' ⟨rfl, rfl⟩
            go_wp2_with fail
            go_roundw
            case rel => exact ⟨i + 1, _, D, by omega, by omega, by omega, by go_num, rfl, HN⟩
            case measure => simp [intOf]; omega
          · have B2 : ((t.ph : Int) != 0) = true := by rw [bne_iff_ne]; omega
            have HST := Lib.hid (v_Step _ g q m t _ HCS.out.1 (HCS.out.tab HT.out HF.out))
            clear hp
            generalize t.ph = p at *
            go_wp2_with fail
            refine HPH.out.mono ?_
            rintro e w' ⟨rfl, rfl⟩
            go_wp2_with fail
            refine HST.out.mono ?_
            rintro e w5 ⟨rfl, hs5⟩
            have HN : Hid (∃ t, CState F g q m w w5 vv D t ∧ KInv s.L rs D t) := Lib.hid ⟨_, HCS.out.go hs5, HKI.out.step HCS.out.1.inv⟩
            clear hs5
            go_wp2_with fail
            go_roundw
            case rel => exact ⟨i + 1, _, D, by omega, by omega, by omega, by go_num, rfl, HN⟩
            case measure => simp [intOf]; omega
    · have HFI := Lib.hid (v_Finish _ g q m t _ HCS.out.1 (HCS.out.tab HT.out HF.out) (.inl HF.out))
      have HEND : Hid (∀ K w5, EndsAt t K → GGo (Owns F vv) g q m (t.run K) wr w5 → CycIs F g q m s.L rs w (.returned vv) w5) := Lib.hid (fun K w5 hK h5 => ⟨vv, D, t.run K, rfl, HCS.out.go h5, HKI.out.run HCS.out.1.inv K, hK.1, by omega⟩)
      rcases hc with hc | ⟨hc, hc4⟩
      · have g4 : decide ((i : Int) < (n3 : Int)) = false := decide_eq_false (by omega)
        go_wp2_with fail
        refine HFI.out.mono ?_
        rintro e w5 ⟨K, rfl, hK, h5⟩
        have HE := Lib.hid (HEND.out K w5 hK h5)
        clear hK h5
        go_wp2_with fail
        go_ret
        exact HE.out
      · have g4 : decide ((i : Int) < (n3 : Int)) = true := decide_eq_true (by omega)
        have g5 : decide ((i : Int) < 200) = false := decide_eq_false (by omega)
        go_wp2_with fail
        refine HFI.out.mono ?_
        rintro e w5 ⟨K, rfl, hK, h5⟩
        have HE := Lib.hid (HEND.out K w5 hK h5)
        clear hK h5
        go_wp2_with fail
        go_ret
        exact HE.out
end Go.Proofs.YthokmgnkacpaiaaDoor
