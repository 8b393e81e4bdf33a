/-
  The walk of 'same' of the heap's laws: a heap of the program's and one of the document's that hold the same objects are found to hold the same.
-/
import Derived.Test.YtbmkjlpjgkfjcaaDoorHDo
import Derived.Test.YtbmkjlpjgkfjcaaDoorHCounts
import Derived.Outline
namespace Go.Proofs.YtbmkjlpjgkfjcaaDoor
open Go.RowKit
theorem head_drop {L : List Ob} {k : Nat} {o : Ob} (h : L[k]? = some o) : headAt (L.drop k) = o.at_ := by
  have hk : k < L.length := (List.getElem?_eq_some_iff.1 h).1
  rw [List.drop_eq_getElem_cons hk]
  have : L[k] = o := by rw [List.getElem?_eq_getElem hk] at h; exact Option.some.inj h
  rw [this]; rfl
theorem next_drop {m k : Nat} {L : List Ob} {o : Ob} (hl : Lies m 1 L) (h : L[k]? = some o) : nextOb L (o.at_ + 1) = headAt (L.drop (k + 1)) := by
  have hs := split_at h
  have h1 := next_step m 1 (L.take k) (L.drop (k + 1)) o (by rw [← hs]; exact hl)
  rw [← hs] at h1
  exact h1
/-- Both heaps, and what was there before, as the look goes on. -/
def Looks (F : Nat → Prop) (q r m : Nat) (L : List Ob) (w wr : World) : Prop := Twin F wr q r m L L ∧ Tab wr ∧ Below w.heap.size w wr
theorem Looks.next {F : Nat → Prop} {q r m : Nat} {L : List Ob} {w wr w' : World} (h : Looks F q r m L w wr) (hb : Below wr.heap.size wr w') : Looks F q r m L w w' :=
  ⟨h.1.below hb, h.2.1.below hb h.2.1.lt, h.2.2.trans (hb.mono h.2.2.size)⟩
theorem Looks.drew {F : Nat → Prop} {q r m : Nat} {L : List Ob} {w wr : World} (h : Looks F q r m L w wr) : Looks F q r m L w wr.drew := h.next (Below.refl _ _).drew
theorem Twin.seen {F : Nat → Prop} {w : World} {q r m : Nat} {L K : List Ob} (h : Twin F w q r m L K) : ∃ A c, w.cell? ⟨r, 1, none⟩ = some (.slice A K.length c) ∧ ∀ i o, K[i]? = some o → ObSeen w A i o := by
  obtain ⟨S, T, _, hR, _⟩ := h
  obtain ⟨A, c, _, c1, hs⟩ := hR.seen
  exact ⟨A, c, c1, hs⟩
theorem below_one {w : World} (o : Obj) : Below w.heap.size w (w.alloc o) := (Below.refl _ w).alloc (Nat.le_refl _) o
set_option maxHeartbeats 4000000 in
set_option maxRecDepth 100000 in
theorem same_any (F : Nat → Prop) (q r m : Nat) (L : List Ob) (w : World) (h : Twin F w q r m L L) (hT : Tab w) (hm : m ≤ 65536) :
    Calls Tryd.prog 22 #[.pointer (some ⟨q, 0, none⟩), .pointer (some ⟨r, 0, none⟩)] w (YesMade true w) := by
  have hl := h.lies
  have HL := Lib.hid hl
  have hlen := lies_len hl hm
  have HF := Lib.hid (lies_fields hl hm)
  have H0 : Hid (Looks F q r m L w w) := Lib.hid ⟨h, hT, Below.refl _ _⟩
  clear h hT hl
  go_enter Tryd.func22, Tryd.ntmps22
  go_wp2_with fail
  refine (s_Room _ q r m _ _ _ H0.out.1 HL.out hm hlen).mono ?_
  rintro e w1 ⟨rfl, hb1⟩
  have HT : Hid (Looks F q r m L w w1.drew) := Lib.hid (H0.out.next hb1).drew
  have kr0 : w1.cell? ⟨r, 0, none⟩ = some (.int .i64 (m : Int)) := (H0.out.next hb1).1.cell0
  have B1 : (((roomOf m L : Nat) : Int) != ((roomOf m L : Nat) : Int)) = false := by simp
  have B2 : (((longOf m L : Nat) : Int) != ((longOf m L : Nat) : Int)) = false := by simp
  have B3 : ((m : Int) != (m : Int)) = false := by simp
  clear hb1
  go_upto_region 2 with fail
  go_cut [40] from 22 to 40 (fun v40 wx => v40 = .bool false ∧ Hid (Looks F q r m L w wx))
  case first =>
    go_region_held3 (fun W => W.cell? ⟨r, 0, none⟩ = some (.int .i64 (m : Int))) (go_keep)
      (first | (go_at_call 70; refine (t_Room _ q r m _ _ _ HT.out.1).mono ?_; rintro e W1 ⟨rfl, hb⟩; have HT' : Hid (Looks F q r m L w W1) := Lib.hid (HT.out.next hb); clear HT hb; have HT := HT'; clear HT'; have kr := HT.out.1.cell0) | (go_at_call 71; refine (t_Longest _ q r m _ _ _ HT.out.1).mono ?_; rintro e W1 ⟨rfl, hb⟩; have HT' : Hid (Looks F q r m L w W1) := Lib.hid (HT.out.next hb); clear HT hb; have HT := HT'; clear HT'; have kr := HT.out.1.cell0) | (go_at_call 72; refine (t_Words _ q r m _ _ _ HT.out.1).mono ?_; rintro e W1 ⟨rfl, rfl⟩))
    all_goals
      go_wp2_with fail
      go_meet
      exact ⟨rfl, HT⟩
  case rest =>
    clear HT kr0 B1 B2 B3
    obtain ⟨rfl, H1⟩ := hcut
    go_wp2_with fail
    have hnx := t_Next F q r m L L _ H1.out.1 0 H1.out.2.1 (by decide)
    rw [show (0 : Int).toNat = 0 from rfl, next_head m 1 L HL.out 0 (by omega)] at hnx
    refine hnx.mono ?_
    clear hnx
    rintro e w' ⟨rfl, rfl⟩
    obtain ⟨A, c, c1, hs⟩ := H1.out.1.seen
    clear hs
    go_wp2_with fail
    go_loopw [48, 7] (fun vk va wr => ∃ k : Nat, k ≤ L.length ∧ vk = .int .i64 k ∧ va = .int .i64 (headAt (L.drop k) : Nat) ∧ Hid (Looks F q r m L w wr)) (fun vk _ _ => L.length - (intOf vk).toNat)
    case atStart => exact ⟨0, by omega, by go_num, rfl, H1⟩
    case round =>
      obtain ⟨k, hk, rfl, rfl, HK⟩ := hrel
      clear H1 c1
      by_cases hlt : k < L.length
      · have g2 : decide ((k : Int) < (L.length : Int)) = true := by rw [decide_eq_true_iff]; omega
        obtain ⟨o, ho⟩ : ∃ o, L[k]? = some o := ⟨_, List.getElem?_eq_getElem hlt⟩
        obtain ⟨A, c, c1, hs⟩ := HK.out.1.seen
        obtain ⟨g, rfl, hg, k0, k1, Fs, cf, k2, hfs⟩ := hs k o ho
        have HFS := Lib.hid hfs
        have hf := (find_at HL.out ho).1
        have hol := HF.out o (List.mem_of_getElem? ho)
        have hK := Lib.hid (hKind_at hf)
        have hZ := Lib.hid (hSize_at hf)
        have HGE := Lib.hid (fun i => hGet_at (L := L) i hf)
        have HD := Lib.hid (next_drop HL.out ho)
        rw [head_drop ho]
        have B1 : ((o.at_ : Int) != (o.at_ : Int)) = false := by simp
        have B2 : ((o.kind : Int) != (o.kind : Int)) = false := by simp
        have B3 : ((o.fs.length : Int) != (o.fs.length : Int)) = false := by simp
        have hat : o.at_ ≤ 65536 := by
          have h5 := lies_mem m 1 L HL.out o (List.mem_of_getElem? ho)
          have hnx : o.next = o.at_ + 1 + o.fs.length := rfl
          omega
        clear hs ho hfs hf
        go_wp2_with fail
        have hc := t_Kind F q r m L L _ (HK.out.next (below_one (.cells #[.int .i64 (o.at_ : Int), .int .i64 (o.kind : Int), .slice Fs o.fs.length cf] 102))).1 (o.at_ : Int)
        rw [hK.out] at hc
        refine hc.mono ?_
        clear hc
        rintro e w' ⟨rfl, rfl⟩
        go_wp2_with fail
        have hc := t_Size F q r m L L _ (HK.out.next (below_one (.cells #[.int .i64 (o.at_ : Int), .int .i64 (o.kind : Int), .slice Fs o.fs.length cf] 102))).1 (o.at_ : Int)
        rw [hZ.out] at hc
        refine hc.mono ?_
        clear hc
        rintro e w' ⟨rfl, rfl⟩
        go_wp2_with fail
        go_loop [98] (fun vj => ∃ j : Nat, j ≤ o.fs.length ∧ vj = .int .i64 j) (fun vj => o.fs.length - (intOf vj).toNat)
        case atStart => exact ⟨0, by omega, by go_num⟩
        case round =>
          obtain ⟨j, hj, rfl⟩ := hrel
          by_cases hjl : j < o.fs.length
          · have g3 : decide ((j : Int) < (o.fs.length : Int)) = true := by rw [decide_eq_true_iff]; omega
            obtain ⟨f, rfl, hfl, kx⟩ := HFS.out j (o.fs[j]) (List.getElem?_eq_getElem hjl)
            have hd : o.fs[j] = o.fs.getD j 0 := by rw [List.getD_eq_getElem?_getD, List.getElem?_eq_getElem hjl]; rfl
            rw [hd] at kx
            have hc := t_Get F q r m L L _ (HK.out.next (below_one (.cells #[.int .i64 (o.at_ : Int), .int .i64 (o.kind : Int), .slice (some ⟨f, 0, none⟩) o.fs.length cf] 102))).1 (o.at_ : Int) (j : Int)
            rw [HGE.out (j : Int), if_neg (by omega), Int.toNat_natCast] at hc
            clear hd
            generalize o.fs.getD j 0 = x at *
            have B4 : ((x : Int) != (x : Int)) = false := by simp
            go_wp2_with fail
            refine hc.mono ?_
            clear hc
            rintro e w' ⟨rfl, rfl⟩
            go_wp2_with fail
            go_round
            case rel => exact ⟨j + 1, by omega, by go_num⟩
            case measure => simp [intOf]; omega
          · have g3 : decide ((j : Int) < (o.fs.length : Int)) = false := by rw [decide_eq_false_iff_not]; omega
            have hc := t_Next F q r m L L _ (HK.out.next (below_one (.cells #[.int .i64 (o.at_ : Int), .int .i64 (o.kind : Int), .slice Fs o.fs.length cf] 102))).1 ((o.at_ : Int) + 1) (HK.out.next (below_one _)).2.1 (by omega)
            rw [show ((o.at_ : Int) + 1).toNat = o.at_ + 1 by omega, HD.out] at hc
            go_wp2_with fail
            refine hc.mono ?_
            clear hc
            rintro e w' ⟨rfl, rfl⟩
            go_wp2_with fail
            go_roundw
            case rel => exact ⟨k + 1, by omega, by go_num, rfl, Lib.hid (HK.out.next (below_one _))⟩
            case measure => simp [intOf]; omega
      · have g2 : decide ((k : Int) < (L.length : Int)) = false := by rw [decide_eq_false_iff_not]; omega
        obtain rfl : k = L.length := by omega
        rw [show headAt (L.drop L.length) = 0 by rw [List.drop_length]; rfl]
        go_wp2_with fail
        go_ret
        exact ⟨rfl, HK.out.2.2⟩
end Go.Proofs.YtbmkjlpjgkfjcaaDoor
