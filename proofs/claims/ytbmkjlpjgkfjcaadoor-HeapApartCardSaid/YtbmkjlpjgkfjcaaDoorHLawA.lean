/-
  The walk of the law HeapApart: whatever the input, it returns true and leaves what was there as it was. Condition: the table of math/bits holds what its initialiser lays.
-/
import Derived.Test.YtbmkjlpjgkfjcaaDoorHApC
namespace Go.Proofs.YtbmkjlpjgkfjcaaDoor
open Go.RowKit
set_option maxHeartbeats 8000000 in
set_option maxRecDepth 100000 in
theorem apart_walk (m : Nat) (A : Option Addr) (n c : Nat) (w : World) (hT : Tab w) (h : 2 ≤ m ∧ m ≤ 65536) (hS : Script w A n) (hn : n ≤ 9223372036854775807) :
    Calls Tryd.prog 4 #[.int .i64 (m : Int), .slice A n c] w (YesMade true w) := by
  obtain ⟨i0, hi0, hz0, hz1, hz2⟩ := info_parts infoHeld
  obtain ⟨j0, hj0, hy0, hy1, hy2⟩ := info_parts info30
  have HT := Lib.hid hT
  have HS := Lib.hid hS
  clear hT hS
  go_enter Tryd.func4, Tryd.ntmps4
  go_wp2_with fail
  refine (awake_any _ HT.out).mono ?_
  rintro e w1 ⟨rfl, hb⟩
  have HB := Lib.hid hb
  clear hb
  go_wp2_with fail
  refine (g_New m h.1 h.2 _).mono ?_
  rintro e w2 ⟨q, rfl, h2, hb2⟩
  have H3 := Lib.hid (apt_start HB.out h2 hb2)
  clear h2 hb2 HB
  go_wp2_with fail
  go_loopw [7, 6] (fun vi va wr => ∃ (i : Nat) (v : Value), i ≤ n ∧ i ≤ 400 ∧ vi = .int .i64 i ∧ v = va ∧ Hid (MidA q m w i v wr)) (fun vi _ _ => n - (intOf vi).toNat)
  case atStart => exact ⟨0, _, by omega, by omega, by go_num, rfl, H3⟩
  case round =>
    obtain ⟨i, v, hin, hi4, rfl, rfl, HI⟩ := hrel
    clear H3
    obtain ⟨L, P, hap, hgood, hbw, hpl⟩ := HI.out
    have HA := Lib.hid hap
    have HG := Lib.hid hgood
    have HBW := Lib.hid hbw
    obtain ⟨AV, cV, rfl, hseen⟩ := hap.seen
    have HSN := Lib.hid hseen
    have hcase : (i < n ∧ i < 400) ∨ n ≤ i ∨ (i < n ∧ 400 ≤ i) := by omega
    clear hap hgood hseen
    rcases hcase with ⟨hi1, hi2⟩ | hc
    · have g4 : decide ((i : Int) < (n : Int)) = true := decide_eq_true (by omega)
      have g4' : decide (i < n) = true := decide_eq_true hi1
      have g5 : decide ((i : Int) < 400) = true := decide_eq_true (by omega)
      obtain ⟨st, b, off, rfl, hbl, e0, e1, e2, e3, hsx, hrest⟩ := HS.out i hi1
      have k0 := (hbw.cell (p := ⟨b, off + i * 4, none⟩) hbl).trans e0
      have k1 := (hbw.cell (p := ⟨b, off + i * 4 + 1, none⟩) hbl).trans e1
      have k2 := (hbw.cell (p := ⟨b, off + i * 4 + 2, none⟩) hbl).trans e2
      have k3 := (hbw.cell (p := ⟨b, off + i * 4 + 3, none⟩) hbl).trans e3
      have hbr : b < wr.heap.size := Nat.lt_of_lt_of_le hbl hbw.size
      have g6 : (0 : Int) ≤ (i : Int) := by omega
      have g7 : (i : Int) < (n : Int) := by omega
      clear e0 e1 e2 e3 hrest hbw HI
      have hb0 : Below wr.heap.size wr (wr.alloc (.cells #[.int .i64 st.k, .int .i64 st.a, .int .i64 st.b, .int .u64 (st.x : Int)] 32)) := below_one _
      have HX : Hid (Apt (Boxed (fun b => b < w.heap.size) wr) (wr.alloc (.cells #[.int .i64 st.k, .int .i64 st.a, .int .i64 st.b, .int .u64 (st.x : Int)] 32)) q m L (.slice AV P.length cV) P) := Lib.hid (HA.out.more hb0 (by
        rintro x (hx | rfl)
        · exact .inl hx
        · exact .inr ⟨Nat.le_refl _, by simp⟩))
      have hat := heap_alloc_new wr (.cells #[.int .i64 st.k, .int .i64 st.a, .int .i64 st.b, .int .u64 (st.x : Int)] 32)
      have HBK : Hid (∀ L' v' P' w', AptStep (Boxed (fun b => b < w.heap.size) wr) q m L' v' P' (wr.alloc (.cells #[.int .i64 st.k, .int .i64 st.a, .int .i64 st.b, .int .u64 (st.x : Int)] 32)) w' → Apt (fun b => b < w.heap.size) w' q m L' v' P' ∧ Below w.heap.size w w') := Lib.hid (fun _ _ _ _ hs => ⟨hs.1.less fun _ hx => .inl hx, (HBW.out.trans (hb0.mono HBW.out.size)).trans (hs.2.below (fun _ hx => .inl hx) (Nat.le_trans HBW.out.size hb0.size))⟩)
      have hw0 : wr.heap.size < (wr.alloc (.cells #[.int .i64 st.k, .int .i64 st.a, .int .i64 st.b, .int .u64 (st.x : Int)] 32)).heap.size := by simp
      have q0 := Lib.hid (show (wr.alloc (.cells #[.int .i64 st.k, .int .i64 st.a, .int .i64 st.b, .int .u64 (st.x : Int)] 32)).cell? ⟨wr.heap.size, 0, none⟩ = some (.int .i64 st.k) by rw [Lib.cell_of_heap hat]; rfl)
      have q1 := Lib.hid (show (wr.alloc (.cells #[.int .i64 st.k, .int .i64 st.a, .int .i64 st.b, .int .u64 (st.x : Int)] 32)).cell? ⟨wr.heap.size, 1, none⟩ = some (.int .i64 st.a) by rw [Lib.cell_of_heap hat]; rfl)
      have q2 := Lib.hid (show (wr.alloc (.cells #[.int .i64 st.k, .int .i64 st.a, .int .i64 st.b, .int .u64 (st.x : Int)] 32)).cell? ⟨wr.heap.size, 2, none⟩ = some (.int .i64 st.b) by rw [Lib.cell_of_heap hat]; rfl)
      have q3 := Lib.hid (show (wr.alloc (.cells #[.int .i64 st.k, .int .i64 st.a, .int .i64 st.b, .int .u64 (st.x : Int)] 32)).cell? ⟨wr.heap.size, 3, none⟩ = some (.int .u64 (st.x : Int)) by rw [Lib.cell_of_heap hat]; rfl)
      have HPB : Hid (Boxed (fun b => b < w.heap.size) wr wr.heap.size) := Lib.hid (.inr rfl)
      clear hb0 hat HA
      go_upto_region 17 with fail
      clear k0 k1 k2 k3 g4 g4' g5 g6 g7 hbr HBW HSN
      generalize Boxed (fun b => b < w.heap.size) wr = FB at *
      generalize hW0 : wr.alloc (.cells #[.int .i64 st.k, .int .i64 st.a, .int .i64 st.b, .int .u64 (st.x : Int)] 32) = w0 at *
      clear hW0
      generalize wr.heap.size = p at *
      have c0 := q0.out
      have HL := Lib.hid HX.out.lies
      by_cases hk0 : st.k = 0
      · have B0 : (st.k == 0) = true := by simp [hk0]
        clear hk0
        have c1 := q1.out
        have c2 := q2.out
        have HAL := Lib.hid (a_Alloc FB q m L _ P w0 HX.out st.a st.b)
        rcases alloc_facts st.a st.b HL.out with ⟨er, he, ha⟩ | ⟨a, kk, nn, L', ha, hq1, hq2, hq3, hq4, hl', hnone, hf, hq5⟩
        · rw [ha] at HAL
          have B1 : (er != 0) = true := by rw [bne_iff_ne]; exact he
          clear ha he
          go_wp2_with fail
          refine HAL.out.mono ?_
          rintro e w5 ⟨rfl, hs5⟩
          have HN : Hid (MidA q m w (i + 1) (.slice AV P.length cV) w5) := Lib.hid (by
            obtain ⟨j1, j2⟩ := HBK.out _ _ _ _ hs5
            exact ⟨L, P, j1, HG.out, j2, by omega⟩)
          clear hs5 c0 c1 c2
          go_wp2_with fail
          go_roundw
          case rel => exact ⟨i + 1, _, by omega, by omega, by go_num, rfl, HN⟩
          case measure => simp [intOf]; omega
        · rw [ha] at HAL
          have hnn : nn ≤ 4096 := by
            have h9 := ha
            unfold hAlloc at h9
            split at h9
            · simp at h9
            · split at h9
              · simp at h9
              · omega
          have HGD := Lib.hid (HG.out.laid hnone hf hnn)
          obtain ⟨hap1, hap2, hap3⟩ := good_apart HG.out hl' hnone hf
          have HAP := Lib.hid hap1
          rw [hq2] at q2 c2 HAL
          clear ha hq1 hq2 hq3 hq4 hl' hnone hf hq5 hap1
          go_wp2_with fail
          refine HAL.out.mono ?_
          rintro e w5 ⟨rfl, hs5⟩
          have d2 := (hs5.2.cell (p := ⟨p, 2, none⟩) HPB.out hw0).trans q2.out
          have hp5 : p < w5.heap.size := Nat.lt_of_lt_of_le hw0 hs5.2.size
          have HS5 := Lib.hid hs5
          clear hs5 c0 c1 c2 HAL
          go_wp2_with fail
          have HB5 := Lib.hid (build_start w5 a nn)
          have D2 := Lib.hid d2
          clear d2
          go_loopw [13] (fun vk wx => ∃ (k : Nat) (v : Value), k ≤ nn ∧ vk = .int .i64 k ∧ Hid (Build w5 a nn v k wx)) (fun vk _ => nn - (intOf vk).toNat)
          case atStart => exact ⟨0, _, by omega, by go_num, HB5⟩
          case round =>
            obtain ⟨k, vb, hk, rfl, HBU⟩ := hrel
            clear HB5
            have d2 := (HBU.out.2.2.cell (p := ⟨p, 2, none⟩) hp5).trans D2.out
            by_cases hkl : k < nn
            · have g2 : decide ((k : Int) < (nn : Int)) = true := decide_eq_true (by omega)
              have g2' : decide (k < nn) = true := decide_eq_true hkl
              have y2 : wr.cell? ⟨w5.heap.size, 2, none⟩ = some vb := by rw [Lib.cell_of_heap HBU.out.1]; rfl
              have yl := lt_of_heap HBU.out.1
              have hown : Hid ((wr.alloc (.cells #[.int .u64 1] 30)).ownsRow 0 30 1 vb k (u64s (List.replicate k 1))) := Lib.hid (HBU.out.2.1.1.alloc _)
              have hsrc := Lib.hid (build_src wr)
              have hone : Hid (∀ u ∈ [Value.int IntKind.u64 1], u.oneCell' = true) := Lib.hid (by intro u hu; obtain rfl : u = Value.int IntKind.u64 1 := (by simpa using hu); rfl)
              go_wp2_with (at_builtin; refine wpList_append_own_at _ rfl (.tmp 114) (.tmp 115) 43 rfl 0 30 j0 _ 1 8 Tryd.underlying43 hj0 hy0 hy1 hy2 rfl (by decide) _ _ _ rfl hown.out ⟨wr.heap.size, 0, none⟩ 1 1 [.int .u64 1] rfl rfl hsrc.out hone.out (by unfold maxLen; omega) (by omega) (Nat.zero_le _) ?_)
              intro v1 w4 hown1 hgr1 hnn1 hat1
              obtain ⟨hblk, hbn⟩ := build_next HBU.out hown1 hgr1 (by simpa using hat1)
              have f3 : w4.frozen? ⟨w5.heap.size, 2, none⟩ = false := Lib.frozen_of_heap hblk 2
              have f4 : w4.cell? ⟨w5.heap.size, 2, none⟩ = some vb := by rw [Lib.cell_of_heap hblk]; rfl
              have HBN := Lib.hid hbn
              obtain ⟨f1, k1, rfl⟩ : ∃ f1 k1, v1 = .slice (some ⟨f1, 0, none⟩) (k + 1) k1 := by
                rcases hown1.2 with ⟨h, _⟩ | ⟨g', k', _, h, _⟩
                · exact (hnn1 h).elim
                · exact ⟨g', k', h⟩
              clear hown1 hgr1 hnn1 hat1 hblk hbn hown hsrc hone y2 d2
              go_wp2_with fail
              go_roundw
              case rel => exact ⟨k + 1, _, by omega, by go_num, HBN⟩
              case measure => simp [intOf]; omega
            · have g2 : decide ((k : Int) < (nn : Int)) = false := decide_eq_false (by omega)
              have g2' : decide (k < nn) = false := decide_eq_false hkl
              obtain rfl : k = nn := by omega
              clear hkl hk
              obtain ⟨AB, cB, rfl, hvw⟩ := HBU.out.2.1.view
              have HB7 := HBU
              have HBD := Lib.hid (HG.out.bound HL.out)
              clear hvw HBU
              go_wp2_with fail
              clear g2 g2' d2
              go_loopw [120] (fun vj wx => ∃ j : Nat, j ≤ P.length ∧ vj = .int .i64 j ∧ Hid (Build w5 a k (.slice AB k cB) k wx)) (fun vj _ => P.length - (intOf vj).toNat)
              case atStart => exact ⟨0, by omega, by go_num, HB7⟩
              case round =>
                obtain ⟨j, hj, rfl, HBU⟩ := hrel
                clear HB7
                have d2 := (HBU.out.2.2.cell (p := ⟨p, 2, none⟩) hp5).trans D2.out
                have hp7 : p < wr.heap.size := Nat.lt_of_lt_of_le hp5 HBU.out.2.2.size
                by_cases hjl : j < P.length
                · have g2 : decide ((j : Int) < (P.length : Int)) = true := decide_eq_true (by omega)
                  have g2' : decide (j < P.length) = true := decide_eq_true hjl
                  have g3 : (0 : Int) ≤ (j : Int) := by omega
                  have g4 : (j : Int) < (P.length : Int) := by omega
                  obtain ⟨⟨ob, vo⟩, hpj⟩ : ∃ pp, P[j]? = some pp := ⟨_, List.getElem?_eq_getElem hjl⟩
                  obtain ⟨g, rfl, hgl, _, x1, x2, _⟩ := HS5.out.1.cells.2 j _ hpj
                  have y1 := (HBU.out.2.2.cell (p := ⟨g, j * 3, none⟩) hgl).trans x1
                  have y2 := (HBU.out.2.2.cell (p := ⟨g, j * 3 + 1, none⟩) hgl).trans x2
                  have hgr : g < wr.heap.size := Nat.lt_of_lt_of_le hgl HBU.out.2.2.size
                  have hom : ob ∈ P.map (·.1) := List.mem_map.2 ⟨_, List.mem_of_getElem? hpj, rfl⟩
                  have hdis := HAP.out ob hom
                  have hbd := HBD.out ob hom
                  have HDR : Hid (∀ n, Build w5 a k (.slice AB k cB) k (wr.drewN n)) := Lib.hid (fun n => HBU.out.below (below_drewN (Below.refl _ _) n))
                  have e1 : IntKind.i64.wrap ((ob.at_ : Int) + (ob.kind : Int)) = (ob.at_ : Int) + (ob.kind : Int) := by rw [IntKind.wrap_i64]; omega
                  have e2 : IntKind.i64.wrap ((a : Int) + (k : Int)) = (a : Int) + (k : Int) := by rw [IntKind.wrap_i64]; omega
                  clear x1 x2 hpj hom
                  by_cases hle : a ≤ ob.at_ + ob.kind
                  · have B1 : decide ((a : Int) ≤ (ob.at_ : Int) + (ob.kind : Int)) = true := decide_eq_true (by omega)
                    have B2 : decide ((ob.at_ : Int) ≤ (a : Int) + (k : Int)) = false := decide_eq_false (by omega)
                    clear hdis hle hbd
                    go_wp2_with fail
                    go_quiet (fail)
                    go_wp2_with fail
                    go_roundw
                    case rel => exact ⟨j + 1, by omega, by go_num, Lib.hid (HDR.out _)⟩
                    case measure => simp [intOf]; omega
                  · have B1 : decide ((a : Int) ≤ (ob.at_ : Int) + (ob.kind : Int)) = false := decide_eq_false (by omega)
                    clear hdis hle hbd
                    go_wp2_with fail
                    go_quiet (fail)
                    go_wp2_with fail
                    go_roundw
                    case rel => exact ⟨j + 1, by omega, by go_num, Lib.hid (HDR.out _)⟩
                    case measure => simp [intOf]; omega
                · have g2 : decide ((j : Int) < (P.length : Int)) = false := decide_eq_false (by omega)
                  have g2' : decide (j < P.length) = false := decide_eq_false hjl
                  have B1 : decide ((a : Int) < 1) = false := decide_eq_false (by omega)
                  have B2 : decide ((m : Int) ≤ (a : Int) + (k : Int)) = false := decide_eq_false (by omega)
                  have e2 : IntKind.i64.wrap ((a : Int) + (k : Int)) = (a : Int) + (k : Int) := by rw [IntKind.wrap_i64]; omega
                  have y0 : wr.cell? ⟨w5.heap.size, 0, none⟩ = some (.int .i64 (a : Int)) := by rw [Lib.cell_of_heap HBU.out.1]; rfl
                  have y1 : wr.cell? ⟨w5.heap.size, 1, none⟩ = some (.int .i64 (k : Int)) := by rw [Lib.cell_of_heap HBU.out.1]; rfl
                  have y2 : wr.cell? ⟨w5.heap.size, 2, none⟩ = some (.slice AB k cB) := by rw [Lib.cell_of_heap HBU.out.1]; rfl
                  have yl := lt_of_heap HBU.out.1
                  have hown : Hid ((wr.alloc (.cells #[.int .i64 (a : Int), .int .i64 (k : Int), .slice AB k cB] 45)).ownsRow 0 45 3 (.slice AV P.length cV) P.length (obCells P)) := Lib.hid ((own_keep HS5.out.1.own.1 fun b hx => HBU.out.2.2.block b (World.ownsRow.lt HS5.out.1.own.1 b hx).2).alloc _)
                  have hsrc := Lib.hid (three_src wr (a : Int) (k : Int) (.slice AB k cB))
                  have hone : Hid (∀ u ∈ [Value.int .i64 (a : Int), Value.int .i64 (k : Int), .slice AB k cB], u.oneCell' = true) := Lib.hid (by
                    intro u hu
                    simp only [List.mem_cons, List.not_mem_nil, or_false] at hu
                    rcases hu with rfl | rfl | rfl <;> rfl)
                  clear hj hjl
                  go_wp2_with (at_builtin; refine wpList_append_own_at _ rfl (.tmp 159) (.tmp 161) 42 rfl 0 45 i0 _ 3 40 Tryd.underlying42 hi0 hz0 hz1 hz2 rfl (by decide) _ _ _ rfl hown.out ⟨wr.heap.size, 0, none⟩ 1 1 [.int .i64 (a : Int), .int .i64 (k : Int), .slice AB k cB] rfl rfl hsrc.out hone.out (by unfold maxLen; omega) (by omega) (Nat.zero_le _) ?_)
                  intro v1 w4 hown1 hgr1 hnn1 hat1
                  have HN : Hid (MidA q m w (i + 1) v1 w4) := Lib.hid (by
                    have hf9 : RowIn wr (fun b => w5.heap.size ≤ b) 30 1 (.slice AB k cB) (Ob.mk a k (List.replicate k 1)).fs.length (u64s (Ob.mk a k (List.replicate k 1)).fs) := by
                      have h9 := HBU.out.2.1
                      show RowIn wr _ _ 1 _ (List.replicate k 1).length _
                      rw [List.length_replicate]
                      exact h9
                    have hps := Apt.push (o := ⟨a, k, List.replicate k 1⟩) HS5.out.1 HBU.out.2.2 hf9 hown1 hgr1 (by simpa using hat1)
                    obtain ⟨j1, j2⟩ := HBK.out _ _ _ _ (HS5.out.then hps)
                    exact ⟨L', _, j1, by rw [List.map_append]; exact HGD.out, j2, by rw [List.length_append]; simp; omega⟩)
                  clear hown1 hgr1 hnn1 hat1 hown hsrc hone y0 y1 y2 d2
                  go_wp2_with fail
                  go_roundw
                  case rel => exact ⟨i + 1, _, by omega, by omega, by go_num, rfl, HN⟩
                  case measure => simp [intOf]; omega
      have B0 : (st.k == 0) = false := by simp [hk0]
      have hpc : P.length = 0 ∨ 0 < P.length := by omega
      rcases hpc with hp0 | hp0
      · have B1 : ((P.length : Int) == 0) = true := by rw [beq_iff_eq]; omega
        have HN : Hid (MidA q m w (i + 1) (.slice AV P.length cV) w0) := Lib.hid (by
          obtain ⟨j1, j2⟩ := HBK.out _ _ _ _ ⟨HX.out, Turned.refl _ _⟩
          exact ⟨L, P, j1, HG.out, j2, by omega⟩)
        clear hk0 hp0
        go_wp2_with fail
        go_roundw
        case rel => exact ⟨i + 1, _, by omega, by omega, by go_num, rfl, HN⟩
        case measure => simp [intOf]; omega
      have C0 : ((P.length : Int) == 0) = false := by rw [beq_eq_false_iff_ne]; omega
      have C1 : ¬ ((P.length : Int) = 0) := by omega
      have C2 : ¬ (P.length = 0) := by omega
      obtain ⟨jj, hjj, hjw⟩ := idx_of st.a P.length hp0 (by omega)
      have HJW := Lib.hid hjw
      have E1 : IntKind.u64.wrap (P.length : Int) = (P.length : Int) := by rw [IntKind.wrap_u64]; omega
      obtain ⟨⟨ob, vo⟩, hpj⟩ : ∃ pp, P[jj]? = some pp := ⟨_, List.getElem?_eq_getElem hjj⟩
      obtain ⟨g, rfl, hgl, hgF, x1, x2, x3, Fs, cf, hvo, hfs⟩ := HX.out.cells.2 jj _ hpj
      replace hvo : vo = .slice Fs ob.fs.length cf := hvo
      subst hvo
      replace x1 : w0.cell? ⟨g, jj * 3, none⟩ = some (.int .i64 (ob.at_ : Int)) := x1
      replace x2 : w0.cell? ⟨g, jj * 3 + 1, none⟩ = some (.int .i64 (ob.kind : Int)) := x2
      replace x3 : w0.cell? ⟨g, jj * 3 + 2, none⟩ = some (.slice Fs ob.fs.length cf) := x3
      have hpm : (P.map (·.1))[jj]? = some ob := by rw [List.getElem?_map, hpj]; rfl
      have hom := List.mem_of_getElem? hpm
      have hbd := HG.out.bound HL.out ob hom
      have hsz := HG.out.size ob hom
      obtain ⟨xo, hxo, hxf⟩ := HG.out.there ob hom
      have HXO := Lib.hid hxo
      have HXF := Lib.hid hxf
      obtain ⟨hsz1, hsz2⟩ := hsz
      rw [hsz1] at x2 hbd
      clear hsz1
      have HPJ := Lib.hid hpj
      have HPM := Lib.hid hpm
      have HFS := Lib.hid hfs
      have g1 : (0 : Int) ≤ (jj : Int) := by omega
      have g2 : (jj : Int) < (P.length : Int) := by omega
      clear hjw hpj hpm hom hxo hxf hfs hp0
      by_cases hk1 : st.k = 1
      · have D0 : (st.k == 1) = true := by simp [hk1]
        have c1 := q1.out
        clear hk0 hk1
        have HFR := Lib.hid (a_Free FB q m L _ P w0 HX.out (ob.at_ : Int))
        rw [hFree_at HXO.out] at HFR
        go_upto_region 37 with fail
        rw [HJW.out]
        clear C0 C1 C2 E1
        go_wp2_with fail
        refine HFR.out.mono ?_
        rintro e w5 ⟨rfl, hs5⟩
        have HS5 := Lib.hid hs5
        have hrow := hs5.1.own
        have hcells := hs5.1.cells.2
        clear hs5
        go_upto_region 39 with fail
        have E2 : IntKind.i64.wrap ((jj : Int) + 1) = (jj : Int) + 1 := by rw [IntKind.wrap_i64]; omega
        have hcap : P.length ≤ cV := by
          rcases hrow.1.2 with ⟨h9, _⟩ | ⟨g', k', cur, h9, hr⟩
          · cases h9
          · simp only [Value.slice.injEq] at h9
            rw [h9.2.2]
            exact hr.2.2.1
        have q5 : (jj : Int) ≤ (cV : Int) := by omega
        have q6 : jj ≤ cV := by omega
        have q7 : (jj : Int) + 1 ≤ (P.length : Int) := by omega
        have q8 : jj + 1 ≤ P.length := by omega
        have q9 : (P.length : Int) ≤ (cV : Int) := by omega
        have hgl5 := (World.ownsRow.lt hrow.1 g rfl).2
        have hown : Hid ((w5.alloc (.cells #[] 45)).drew.ownsRow 0 45 3 (.slice (some ⟨w5.heap.size, 0, none⟩) 0 0) 0 []) := Lib.hid (World.ownsRow_made w5 #[] 0 (Nat.zero_le _) (Nat.zero_le _) rfl)
        have HRW := Lib.hid hrow
        have hsrc : Hid (∃ ad, some (⟨g, 0, none⟩ : Addr) = some ad ∧ ∀ j u, (obCells (P.take jj))[j]? = some u → (w5.alloc (.cells #[] 45)).drew.cell? (ad.add j) = some u) := Lib.hid ⟨_, rfl, fun j u hu => by
          rw [← obCells_take] at hu
          have h := World.ownsRow.cells HRW.out.1 (g := g) rfl j u (by rw [List.getElem?_take] at hu; split at hu; exact hu; cases hu)
          refine (World.cell?_of_block (w := w5) ?_).trans h
          have hb : ((⟨g, 0, none⟩ : Addr).add j).block = g := by unfold Addr.add; split <;> rfl
          rw [hb]
          exact Below.heap_alloc w5 _ g hgl5⟩
        have hlen1 : (obCells (P.take jj)).length = jj * 3 := by rw [obCells_len, List.length_take, Nat.min_eq_left (by omega)]
        have hone1 : Hid (∀ u ∈ obCells (P.take jj), u.oneCell' = true) := Lib.hid (fun u hu => HRW.out.2 u (by rw [← obCells_take] at hu; exact List.mem_of_mem_take hu))
        clear hrow hcells
        have q10 : (0 : Int) ≤ (jj : Int) + 1 := by omega
        have hlen2 : (obCells (P.drop (jj + 1))).length = (P.length - (jj + 1)) * 3 := by rw [obCells_len, List.length_drop]
        have hone2 : Hid (∀ u ∈ obCells (P.drop (jj + 1)), u.oneCell' = true) := Lib.hid (fun u hu => HRW.out.2 u (by rw [← obCells_drop] at hu; exact List.mem_of_mem_drop hu))
        have hsrc2 : Hid (∀ W, Below w5.heap.size w5 W → ∃ ad, (if cV = jj + 1 then some (⟨g, 0, none⟩ : Addr) else some ⟨g, (jj + 1) * 3, none⟩) = some ad ∧ ∀ j u, (obCells (P.drop (jj + 1)))[j]? = some u → W.cell? (ad.add j) = some u) := Lib.hid (fun W hW => by
          split
          · refine ⟨_, rfl, fun j u hu => ?_⟩
            have hj := (List.getElem?_eq_some_iff.1 hu).1
            omega
          · refine ⟨_, rfl, fun j u hu => ?_⟩
            rw [← obCells_drop, List.getElem?_drop] at hu
            have h := World.ownsRow.cells HRW.out.1 (g := g) rfl _ u hu
            rw [Addr.add_lit] at h
            rw [Addr.add_lit, hW.cell (p := ⟨g, (jj + 1) * 3 + j, none⟩) hgl5]
            simpa using h)
        have HAN : Hid (∀ v2 w7, Below w5.heap.size w5 w7 → w7.ownsRow 0 45 3 v2 (jj + (P.length - (jj + 1))) (obCells (P.take jj) ++ obCells (P.drop (jj + 1))) → (∀ b, v2.ownBlock = some b → w5.heap.size ≤ b) → MidA q m w (i + 1) v2 w7) := Lib.hid (fun v2 w7 hb7 ho7 hn7 => by
          have hlp : (P.take jj ++ P.drop (jj + 1)).length = jj + (P.length - (jj + 1)) := by rw [List.length_append, List.length_take, List.length_drop, Nat.min_eq_left (by omega)]
          rw [← obCells_append, ← hlp] at ho7
          have hsub : (P.take jj ++ P.drop (jj + 1)).Sublist P := by
            have h9 : (P.take jj ++ P.drop (jj + 1)).Sublist (P.take jj ++ P.drop jj) := (List.Sublist.refl _).append (List.drop_sublist_drop_left P (Nat.le_succ jj))
            rwa [List.take_append_drop] at h9
          obtain ⟨j1, j2⟩ := HBK.out _ _ _ _ (HS5.out.then (Apt.anew HS5.out.1 hb7 ho7 hn7 hsub))
          exact ⟨_, _, j1, by
            have h9 := HG.out.freed HL.out HPM.out
            rw [List.map_append, List.map_take, List.map_drop]
            exact h9, j2, by rw [hlp]; omega⟩)
        clear HFR HS5 HRW
        go_region_law (first | (refine step_append_own rfl (.tmp 185) (.tmp 188) 42 rfl 0 45 i0 _ 3 40 Tryd.underlying42 hi0 hz0 hz1 hz2 rfl (by decide) _ _ _ rfl hown.out _ jj cV (obCells (P.take jj)) rfl hlen1 hsrc.out hone1.out (by unfold maxLen; omega) (by omega) (Nat.zero_le _) ?_; intro v1 w6 hown1 hgr1 hnn1 hat1; obtain ⟨g1, k1, rfl, hx1, ho1⟩ := made_form hown1 hnn1 hat1 rfl; have HB1 := Lib.hid (apart_b1 hgr1); have HO1 := Lib.hid ho1; have HX1 := Lib.hid hx1; clear hown1 hgr1 hnn1 hat1 hx1 ho1) | (refine step_append_own rfl (.tmp 189) (.tmp 193) 42 rfl 0 45 i0 _ 3 40 Tryd.underlying42 hi0 hz0 hz1 hz2 rfl (by decide) _ _ _ rfl HO1.out _ (P.length - (jj + 1)) (cV - (jj + 1)) (obCells (P.drop (jj + 1))) rfl hlen2 (hsrc2.out _ HB1.out) hone2.out (by unfold maxLen; omega) (by omega) (Nat.zero_le _) ?_; intro v2 w7 hown2 hgr2 hnn2 hat2; have HN := Lib.hid (HAN.out _ _ (apart_b2 HB1.out hgr2 HX1.out) hown2 (apart_b3 HB1.out HX1.out hat2)); clear hown2 hgr2 hnn2 hat2 HB1 HO1 HX1))
        all_goals
          clear hown hsrc hone1 hlen1 hlen2 hone2 hsrc2 HAN
          go_wp2_with fail
          go_roundw
          case rel => exact ⟨i + 1, _, by omega, by omega, by go_num, rfl, HN⟩
          case measure => simp [intOf]; omega
      have D0 : (st.k == 1) = false := by simp [hk1]
      clear hk0 hk1
      have c1 := q1.out
      go_upto_region 13 with fail
      rw [HJW.out]
      clear C0 C1 C2 E1 c1 c0
      obtain ⟨len, hlen⟩ : ∃ len, ob.fs.length = len := ⟨_, rfl⟩
      rw [hlen] at x2 x3 hbd hsz2
      have HLN := Lib.hid hlen
      clear hlen
      by_cases hkz : len = 0
      · rw [hkz] at x2
        replace x2 : w0.cell? ⟨g, jj * 3 + 1, none⟩ = some (.int .i64 0) := x2
        have HN : Hid (MidA q m w (i + 1) (.slice (some ⟨g, 0, none⟩) P.length cV) w0) := Lib.hid (by
          obtain ⟨j1, j2⟩ := HBK.out _ _ _ _ ⟨HX.out, Turned.refl _ _⟩
          exact ⟨L, P, j1, HG.out, j2, by omega⟩)
        clear hkz
        go_wp2_with fail
        go_roundw
        case rel => exact ⟨i + 1, _, by omega, by omega, by go_num, rfl, HN⟩
        case measure => simp [intOf]; omega
      have B1 : decide ((0 : Int) < (len : Int)) = true := decide_eq_true (by omega)
      have B1' : decide (0 < len) = true := decide_eq_true (by omega)
      obtain ⟨ff, hff, hfw⟩ := idx_of st.b len (by omega) (by omega)
      have HFW := Lib.hid hfw
      have E3 : IntKind.u64.wrap (len : Int) = (len : Int) := by rw [IntKind.wrap_u64]; omega
      have C1 : ¬ ((len : Int) = 0) := by omega
      have C2 : ((len : Int) == 0) = false := by rw [beq_eq_false_iff_ne]; exact C1
      have C5 : ¬ (IntKind.u64.wrap (len : Int) = 0) := by rw [E3]; exact C1
      have C6 : (IntKind.u64.wrap (len : Int) == 0) = false := by rw [E3]; exact C2
      have c2 := q2.out
      have HDR : Hid (∀ n, Apt FB (w0.drewN n) q m L (.slice (some ⟨g, 0, none⟩) P.length cV) P ∧ Below w0.heap.size w0 (w0.drewN n)) := Lib.hid (fun n => ⟨HX.out.below (below_drewN (Below.refl _ _) n), below_drewN (Below.refl _ _) n⟩)
      have E4 : IntKind.i64.wrap (jj : Int) = (jj : Int) := by rw [IntKind.wrap_i64]; omega
      clear hfw x1 x3
      go_wp2_with fail
      go_quiet (fail)
      go_upto_region 15 with fail
      rw [HFW.out]
      generalize hwq : w0.drewN _ = wq at *
      have HXQ : Hid (Apt FB wq q m L (.slice (some ⟨g, 0, none⟩) P.length cV) P ∧ Below w0.heap.size w0 wq) := Lib.hid (by rw [← hwq]; exact HDR.out _)
      clear hwq C1 C2 C5 C6 E3 E4 B1 B1' c2 x2 hkz
      obtain ⟨g', hge, hglq, _, z1, _⟩ := HXQ.out.1.cells.2 jj _ HPJ.out
      cases hge
      have hpq : p < wq.heap.size := Nat.lt_of_lt_of_le hw0 HXQ.out.2.size
      have z3 : wq.cell? ⟨p, 3, none⟩ = some (.int .u64 (st.x : Int)) := (HXQ.out.2.cell (p := ⟨p, 3, none⟩) hw0).trans q3.out
      have Q3 := Lib.hid z3
      have HST : Hid (∀ W, Apt FB W q m L (.slice (some ⟨g, 0, none⟩) P.length cV) P → Calls Tryd.prog 21 #[.pointer (some ⟨q, 0, none⟩), .int .i64 (ob.at_ : Int), .int .i64 (ff : Int), .int .u64 (st.x : Int)] W (AOne FB q m 0 (setOb L ob.at_ ff st.x) (.slice (some ⟨g, 0, none⟩) P.length cV) P W)) := Lib.hid (fun W hW => by
        have h9 := a_Set FB q m L _ P W hW (ob.at_ : Int) (ff : Int) st.x hsx
        rw [hSet_at (ff : Int) st.x HXO.out, HXF.out, HLN.out, if_neg (by omega), Int.toNat_natCast] at h9
        exact h9)
      have f1 : (0 : Int) ≤ (ff : Int) := by omega
      have f2 : (ff : Int) < (len : Int) := by omega
      have E2 : IntKind.i64.wrap (jj : Int) = (jj : Int) := by rw [IntKind.wrap_i64]; omega
      go_region_held3 (fun W => W.cell? ⟨g, jj * 3, none⟩ = some (.int .i64 (ob.at_ : Int)) ∧ W.cell? ⟨p, 3, none⟩ = some (.int .u64 (st.x : Int))) (go_keep)
        ((go_at_call 21; refine (HST.out _ ?_).mono ?_; exact HXQ.out.1.below (Below.refl _ wq).drew; rintro e w5 ⟨rfl, hs5⟩; have HS5 := Lib.hid hs5; have j3 := (hs5.2.cell (p := ⟨p, 3, none⟩) HPB.out hpq).trans Q3.out; obtain ⟨g', hge, hgl5, _, j1, _, _⟩ := hs5.1.cells.2 jj _ HPJ.out; cases hge; clear hs5))
      all_goals
        obtain ⟨g', hge, hgl5', _, y1, y2, y3, Fs', cf', hvo, hfs⟩ := HS5.out.1.cells.2 jj _ HPJ.out
        cases hge
        simp only [Value.slice.injEq] at hvo
        obtain ⟨rfl, _, rfl⟩ := hvo
        obtain ⟨f, rfl, hfl5, hfz, hfc⟩ := hfs ff (by show ff < ob.fs.length; rw [HLN.out]; exact hff)
        replace hfc : w5.cell? ⟨f, ff, none⟩ = some (.int .u64 (ob.fs.getD ff 0 : Nat)) := hfc
        replace y3 : w5.cell? ⟨g, jj * 3 + 2, none⟩ = some (.slice (some ⟨f, 0, none⟩) ob.fs.length cf) := y3
        rw [HLN.out] at y3
        have HN : Hid (MidA q m w (i + 1) (.slice (some ⟨g, 0, none⟩) P.length cV) (w5.drew.setCell ⟨f, ff, none⟩ (.int .u64 (st.x : Int)))) := Lib.hid (by
          have h1 : AptStep FB q m (setOb L ob.at_ ff st.x) (.slice (some ⟨g, 0, none⟩) P.length cV) P w0 w5 := ⟨HS5.out.1, (Stands.of_below (HXQ.out.2.drew)).trans HS5.out.2⟩
          have h2 : AptStep FB q m (setOb L ob.at_ ff st.x) (.slice (some ⟨g, 0, none⟩) P.length cV) P w0 w5.drew := ⟨h1.1.below (Below.refl _ w5).drew, h1.2.trans (Stands.of_below (Below.refl _ w5).drew)⟩
          obtain ⟨j1, j2⟩ := HBK.out _ _ _ _ (h2.then (Apt.poke (i := ff) (x := st.x) h2.1 HPJ.out))
          exact ⟨_, _, j1, by rw [List.map_set]; exact HG.out.set HPM.out, j2, by rw [List.length_set]; omega⟩)
        have f3 : ff < ob.fs.length := by rw [HLN.out]; exact hff
        have f4 : (ff : Int) < (ob.fs.length : Int) := by omega
        clear hgl5' hfs
        go_wp2_with fail
        go_region
        all_goals
          go_wp2_with fail
          go_roundw
          case rel => exact ⟨i + 1, _, by omega, by omega, by go_num, rfl, HN⟩
          case measure => simp [intOf]; omega
    · have HFI := Lib.hid (a_Get _ q m L _ P wr HA.out)
      have HL := Lib.hid HA.out.lies
      clear HA hbw HI
      have hcc : (decide ((i : Int) < (n : Int)) = false ∧ decide (i < n) = false) ∨ (decide ((i : Int) < (n : Int)) = true ∧ decide (i < n) = true ∧ decide ((i : Int) < 400) = false) := by
        rcases hc with hc | ⟨hc, hc4⟩
        · exact .inl ⟨decide_eq_false (by omega), decide_eq_false (by omega)⟩
        · exact .inr ⟨decide_eq_true (by omega), decide_eq_true hc, decide_eq_false (by omega)⟩
      clear hc
      rcases hcc with ⟨g4, g4'⟩ | ⟨g4, g4', g5⟩
      all_goals
        go_wp2_with fail
        go_loop [197] (fun vj => ∃ j : Nat, j ≤ P.length ∧ vj = .int .i64 j) (fun vj => P.length - (intOf vj).toNat)
        case atStart => exact ⟨0, by omega, by go_num⟩
        case round =>
          obtain ⟨j, hj, rfl⟩ := hrel
          by_cases hjl : j < P.length
          · have g2 : decide ((j : Int) < (P.length : Int)) = true := decide_eq_true (by omega)
            have g2' : decide (j < P.length) = true := decide_eq_true hjl
            have g3 : (0 : Int) ≤ (j : Int) := by omega
            have g6 : (j : Int) < (P.length : Int) := by omega
            obtain ⟨⟨ob, vo⟩, hpj⟩ : ∃ pp, P[j]? = some pp := ⟨_, List.getElem?_eq_getElem hjl⟩
            obtain ⟨g, rfl, hgl, _, y1, _, y3, Fs, cf, hvo, hfs⟩ := HSN.out j _ hpj
            replace hvo : vo = .slice Fs ob.fs.length cf := hvo
            subst hvo
            replace y3 : wr.cell? ⟨g, j * 3 + 2, none⟩ = some (.slice Fs ob.fs.length cf) := y3
            replace y1 : wr.cell? ⟨g, j * 3, none⟩ = some (.int .i64 (ob.at_ : Int)) := y1
            have hom : ob ∈ P.map (·.1) := List.mem_map.2 ⟨_, List.mem_of_getElem? hpj, rfl⟩
            obtain ⟨xo, hxo, hxf⟩ := HG.out.there ob hom
            have hsz := (HG.out.size ob hom).2
            have HFS := Lib.hid hfs
            have HGT : Hid (∀ f : Nat, f < ob.fs.length → Calls Tryd.prog 23 #[.pointer (some ⟨q, 0, none⟩), .int .i64 (ob.at_ : Int), .int .i64 (f : Int)] wr (TwoSame (.int .u64 ((ob.fs.getD f 0 : Nat) : Int)) 0 wr)) := Lib.hid (fun f hf => by
              have h9 := HFI.out (ob.at_ : Int) (f : Int)
              rw [hGet_at (f : Int) hxo, hxf, if_neg (by omega), Int.toNat_natCast] at h9
              exact h9)
            clear hpj hom hxo hxf hfs
            go_wp2_with fail
            go_loop [206] (fun vf => ∃ f : Nat, f ≤ ob.fs.length ∧ vf = .int .i64 f) (fun vf => ob.fs.length - (intOf vf).toNat)
            case atStart => exact ⟨0, by omega, by go_num⟩
            case round =>
              obtain ⟨f, hf, rfl⟩ := hrel
              by_cases hfl : f < ob.fs.length
              · have g7 : decide ((f : Int) < (ob.fs.length : Int)) = true := decide_eq_true (by omega)
                have g7' : decide (f < ob.fs.length) = true := decide_eq_true hfl
                have g8 : (0 : Int) ≤ (f : Int) := by omega
                have g9 : (f : Int) < (ob.fs.length : Int) := by omega
                have HGF := Lib.hid (HGT.out f hfl)
                obtain ⟨fb, rfl, hfbl, _, yf⟩ := HFS.out f hfl
                replace yf : wr.cell? ⟨fb, f, none⟩ = some (.int .u64 ((ob.fs.getD f 0 : Nat) : Int)) := yf
                have hgt := HGF.out
                clear HGF
                generalize ob.fs.getD f 0 = x at *
                have B1 : ((x : Int) != (x : Int)) = false := by simp
                go_wp2_with fail
                refine hgt.mono ?_
                clear hgt
                rintro e w' ⟨rfl, rfl⟩
                go_wp2_with fail
                go_round
                case rel => exact ⟨f + 1, by omega, by go_num⟩
                case measure => simp [intOf]; omega
              · have g7 : decide ((f : Int) < (ob.fs.length : Int)) = false := decide_eq_false (by omega)
                have g7' : decide (f < ob.fs.length) = false := decide_eq_false hfl
                go_wp2_with fail
                go_round
                case rel => exact ⟨j + 1, by omega, by go_num⟩
                case measure => simp [intOf]; omega
          · have g2 : decide ((j : Int) < (P.length : Int)) = false := decide_eq_false (by omega)
            have g2' : decide (j < P.length) = false := decide_eq_false hjl
            go_wp2_with fail
            go_ret
            exact ⟨rfl, HBW.out⟩
theorem law_Apart (words : Int) (A : Option Addr) (n c : Nat) (w : World) (hT : Tab w) (_hw : -9223372036854775808 ≤ words ∧ words ≤ 9223372036854775807) (hS : Script w A n) (hn : n ≤ 9223372036854775807) :
    Calls Tryd.prog 4 #[.int .i64 words, .slice A n c] w (YesMade true w) := by
  by_cases h1 : 2 ≤ words ∧ words ≤ 65536
  · have h3 := apart_walk words.toNat A n c w hT (by omega) hS hn
    rw [Int.toNat_of_nonneg (by omega)] at h3
    exact h3
  · exact apart_nil words A n c w hT (by omega)
end Go.Proofs.YtbmkjlpjgkfjcaaDoor
