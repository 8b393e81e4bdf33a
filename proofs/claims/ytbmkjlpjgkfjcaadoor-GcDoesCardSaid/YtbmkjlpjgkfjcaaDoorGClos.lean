/-
  The walk of Closure: the addresses of all that words reach, and what those reach, and so on.
-/
import Derived.Test.YtbmkjlpjgkfjcaaDoorGReach
namespace Go.Proofs.YtbmkjlpjgkfjcaaDoor
open Go.RowKit
theorem reach_not {L : List Ob} {x : Nat} (h : reachW L x = 0) {words : Nat} (hl : Lies words 1 L) : ¬ IsIn L (addrW x) := fun hin => by
  unfold reachW at h
  rw [if_pos hin] at h
  have := isIn_range hl hin
  omega
theorem reach_is {L : List Ob} {x : Nat} (h : reachW L x ≠ 0) : IsIn L (addrW x) ∧ reachW L x = addrW x := by
  unfold reachW at h ⊢
  by_cases hin : IsIn L (addrW x)
  · exact ⟨hin, by rw [if_pos hin]⟩
  · rw [if_neg hin] at h; exact absurd rfl h
structure Clo (L : List Ob) (roots : List Nat) (ni i : Nat) (out : List Nat) : Prop where
  nd : out.Nodup
  sound : ∀ a ∈ out, Reached L roots a
  roots : ∀ j, j < ni → IsIn L (addrW (roots.getD j 0)) → addrW (roots.getD j 0) ∈ out
  done : ∀ j, j < i → ∀ x ∈ kidsOf L (out.getD j 0), IsIn L (addrW x) → addrW x ∈ out
theorem Clo.add {L : List Ob} {roots : List Nat} {ni i : Nat} {out : List Nat} (h : Clo L roots ni i out) {a : Nat} (ha : Reached L roots a) (hn : a ∉ out) (hi : i ≤ out.length) : Clo L roots ni i (out ++ [a]) := by
  refine ⟨nodup_snoc h.nd hn, fun b hb => ?_, fun j hj hin => List.mem_append.2 (.inl (h.roots j hj hin)), fun j hj x hx hin => ?_⟩
  · rcases List.mem_append.1 hb with hb | hb
    · exact h.sound b hb
    · obtain rfl : b = a := by simpa using hb
      exact ha
  · rw [getD_app, if_pos (by omega)] at hx
    exact List.mem_append.2 (.inl (h.done j hj x hx hin))
theorem Clo.root {L : List Ob} {roots : List Nat} {ni i : Nat} {out : List Nat} (h : Clo L roots ni i out) (hx : IsIn L (addrW (roots.getD ni 0)) → addrW (roots.getD ni 0) ∈ out) : Clo L roots (ni + 1) i out := by
  refine ⟨h.nd, h.sound, fun j hj hin => ?_, h.done⟩
  by_cases hjn : j = ni
  · subst hjn; exact hx hin
  · exact h.roots j (by omega) hin
theorem Clo.next {L : List Ob} {roots : List Nat} {ni i : Nat} {out : List Nat} (h : Clo L roots ni i out) (hx : ∀ x ∈ kidsOf L (out.getD i 0), IsIn L (addrW x) → addrW x ∈ out) : Clo L roots ni (i + 1) out := by
  refine ⟨h.nd, h.sound, h.roots, fun j hj x hxm hin => ?_⟩
  by_cases hjn : j = i
  · subst hjn; exact hx x hxm hin
  · exact h.done j (by omega) x hxm hin
theorem Clo.full {L : List Ob} {roots : List Nat} {out : List Nat} (h : Clo L roots roots.length out.length out) (a : Nat) : a ∈ out ↔ Reached L roots a := by
  refine ⟨h.sound a, fun ha => ?_⟩
  induction ha with
  | root hx hin =>
    obtain ⟨j, hj, rfl⟩ := mem_getD hx
    exact h.roots j hj hin
  | step hb hx hin ih =>
    obtain ⟨j, hj, rfl⟩ := mem_getD ih
    exact h.done j hj _ hx hin
theorem Clo.few {L : List Ob} {roots : List Nat} {ni i : Nat} {out : List Nat} (h : Clo L roots ni i out) (hL : L.length ≤ 65536) : out.length ≤ 65536 := by
  have h2 := nodup_le (m := L.map Ob.at_) h.nd (fun a ha => by
    obtain ⟨o, ho⟩ := isIn_some (h.sound a ha).isIn
    have h2 := find_mem ho
    exact List.mem_map.2 ⟨o, h2.1, h2.2⟩)
  simp only [List.length_map] at h2
  omega
theorem clo_start (L : List Ob) (roots : List Nat) : Clo L roots 0 0 [] := ⟨List.nodup_nil, (fun a h => by cases h), fun j hj => by omega, fun j hj => by omega⟩
/-- The row that is being made. -/
def Grows (B : Nat) (w0 w : World) (v : Value) (l : List Nat) : Prop := IntRow w (From B) v l ∧ Below B w0 w ∧ B ≤ w.heap.size
theorem Grows.below {B : Nat} {w0 w w' : World} {v : Value} {l : List Nat} (h : Grows B w0 w v l) (hb : Below w.heap.size w w') : Grows B w0 w' v l :=
  ⟨RowIn.keep h.1 fun b hl _ => hb.block b hl, h.2.1.trans (hb.mono h.2.2), Nat.le_trans h.2.2 hb.size⟩
theorem Grows.push {B : Nat} {w0 w w' : World} {v v' : Value} {l : List Nat} {x : Nat} {o : Obj} (h : Grows B w0 w v l) (ho : w'.ownsRow 0 3 1 v' (l.length + 1) (nums .i64 l ++ [.int .i64 (x : Int)])) (hg : (w.alloc o).grownBy w' v.ownBlock)
    (hat : v'.ownBlock = v.ownBlock ∨ v'.ownBlock = some (w.alloc o).heap.size) : Grows B w0 w' v' (l ++ [x]) := by
  obtain ⟨h1, h2, h3⟩ := h
  have hba : Below B w0 (w.alloc o) := h2.alloc h3 _
  refine ⟨⟨?_, fun g hgv => ?_⟩, hba.grown hg (by simp; omega) (fun g hg' => h1.2 g hg'), by have := hg.size; simp at this; omega⟩
  · rw [← nums_snoc, List.length_append]
    exact ho
  · rcases hat with hh | hh
    · exact h1.2 g (hh.symm.trans hgv)
    · rw [hh] at hgv
      have := Option.some.inj hgv
      simp at this
      show B ≤ g
      omega
theorem one_src (w : World) (x : Nat) : ∀ t u, [Value.int IntKind.i64 (x : Int)][t]? = some u → (w.alloc (.cells #[.int .i64 (x : Int)] 3)).cell? ((⟨w.heap.size, 0, none⟩ : Addr).add t) = some u := fun t u hu => by
  cases t with
  | zero => rw [show (⟨w.heap.size, 0, none⟩ : Addr).add 0 = ⟨w.heap.size, 0, none⟩ from rfl, Lib.cell_of_heap (heap_alloc_new w _)]; exact hu
  | succ t => simp at hu
theorem one_cell (x : Nat) : ∀ u ∈ [Value.int IntKind.i64 (x : Int)], u.oneCell' = true := by intro u hu; obtain rfl : u = Value.int IntKind.i64 (x : Int) := (by simpa using hu); rfl
theorem at_inj {words p : Nat} {L : List Ob} (hl : Lies words p L) {i j : Nat} {a b : Ob} (h1 : L[i]? = some a) (h2 : L[j]? = some b) (he : a.at_ = b.at_) : i = j := by
  induction L generalizing p i j with
  | nil => cases h1
  | cons o L ih =>
    have hnx : o.next = o.at_ + 1 + o.fs.length := rfl
    cases i with
    | zero =>
      cases j with
      | zero => rfl
      | succ j =>
        obtain rfl : o = a := by simpa using h1
        have := lies_mem words _ L hl.2 b (List.mem_of_getElem? (by simpa using h2))
        omega
    | succ i =>
      cases j with
      | zero =>
        obtain rfl : o = b := by simpa using h2
        have := lies_mem words _ L hl.2 a (List.mem_of_getElem? (by simpa using h1))
        omega
      | succ j => exact congrArg Nat.succ (ih hl.2 (by simpa using h1) (by simpa using h2))
theorem find_same (r : Nat) (S : Nat → Prop) (m : Nat) (L : List Ob) (w : World) (h : RefAt w r S m L) (hl : Lies m 1 L) (hn : L.length ≤ 65536) {k : Nat} {o : Ob} (hk : L[k]? = some o) :
    Calls Tryd.prog 69 #[.pointer (some ⟨r, 0, none⟩), .int .i64 (o.at_ : Int)] w (OneSame (k : Nat) w) := by
  refine (ref_Find r S m L o.at_ w h hn).mono ?_
  rintro e w' ⟨hw, hf⟩
  rcases hf with ⟨_, hno⟩ | ⟨i, o', he, ho', ha⟩
  · exact absurd rfl (hno k o hk)
  · obtain rfl := at_inj hl ho' hk (by omega)
    exact ⟨he, hw⟩
/-- One object, copied into a block of its own. -/
def OneOb (wr wx : World) (p : Nat) (o : Ob) (Fs : Option Addr) (cf : Nat) : Prop := wx.heap[p]? = some (.cells #[.int .i64 (o.at_ : Int), .int .i64 (o.kind : Int), .slice Fs o.fs.length cf] 102 (0, 0)) ∧ Below wr.heap.size wr wx ∧ wr.heap.size ≤ p
theorem inB_nat (l : List Nat) (a : Nat) : inB l (a : Int) = decide (a ∈ l) := by
  unfold inB
  rw [decide_eq_decide]
  exact ⟨fun ⟨b, hb, he⟩ => by rw [show a = b by omega]; exact hb, fun hb => ⟨_, hb, rfl⟩⟩
def Kids (L : List Ob) (roots : List Nat) (n i2 : Nat) (o : Ob) (t : Nat) (out : List Nat) : Prop :=
  Clo L roots n i2 out ∧ i2 < out.length ∧ out.getD i2 0 = o.at_ ∧ ∀ j, j < t → IsIn L (addrW (o.fs.getD j 0)) → addrW (o.fs.getD j 0) ∈ out
theorem Kids.same {L : List Ob} {roots : List Nat} {n i2 : Nat} {o : Ob} {t : Nat} {out : List Nat} (h : Kids L roots n i2 o t out) (hx : IsIn L (addrW (o.fs.getD t 0)) → addrW (o.fs.getD t 0) ∈ out) : Kids L roots n i2 o (t + 1) out :=
  ⟨h.1, h.2.1, h.2.2.1, fun j hj hin => by
    by_cases hjt : j = t
    · subst hjt; exact hx hin
    · exact h.2.2.2 j (by omega) hin⟩
theorem Kids.more {L : List Ob} {roots : List Nat} {n i2 : Nat} {o : Ob} {t a : Nat} {out : List Nat} (h : Kids L roots n i2 o t out) (ha : Reached L roots a) (hn : a ∉ out) (he : addrW (o.fs.getD t 0) = a) : Kids L roots n i2 o (t + 1) (out ++ [a]) := by
  have hl := h.2.1
  refine ⟨h.1.add ha hn (by omega), by simp; omega, by rw [getD_app, if_pos hl]; exact h.2.2.1, fun j hj hin => ?_⟩
  by_cases hjt : j = t
  · subst hjt; rw [he]; simp
  · exact List.mem_append.2 (.inl (h.2.2.2 j (by omega) hin))
def Side (B : Nat) (w0 wq : World) (v : Value) (out : List Nat) (p : Nat) (o : Ob) (Fs : Option Addr) (cf : Nat) : Prop :=
  Grows B w0 wq v out ∧ wq.heap[p]? = some (.cells #[.int .i64 (o.at_ : Int), .int .i64 (o.kind : Int), .slice Fs o.fs.length cf] 102 (0, 0))
theorem Side.push {B : Nat} {w0 w w' : World} {v v' : Value} {l : List Nat} {x p cf : Nat} {Fs : Option Addr} {o : Ob} {ob : Obj} (h : Side B w0 w v l p o Fs cf) (ho : w'.ownsRow 0 3 1 v' (l.length + 1) (nums .i64 l ++ [.int .i64 (x : Int)])) (hg : (w.alloc ob).grownBy w' v.ownBlock)
    (hat : v'.ownBlock = v.ownBlock ∨ v'.ownBlock = some (w.alloc ob).heap.size) : Side B w0 w' v' (l ++ [x]) p o Fs cf := by
  refine ⟨h.1.push ho hg hat, ?_⟩
  have hp := lt_of_heap h.2
  rw [hg.block p (by simp; omega) (fun e => ?_), Below.heap_alloc w _ p hp, h.2]
  obtain ⟨cur, hc⟩ := own_type h.1.1.1 p e.symm
  exact blocks_ne hc h.2 (by decide) rfl
def ClosIs (L : List Ob) (roots : List Nat) (w : World) (e : Ending) (w' : World) : Prop := ∃ v out, e = .returned v ∧ Grows w.heap.size w w' v out ∧ out.Nodup ∧ out.length ≤ 65536 ∧ ∀ a, a ∈ out ↔ Reached L roots a
set_option maxHeartbeats 4000000 in
set_option maxRecDepth 100000 in
theorem closure_any (r : Nat) (S : Nat → Prop) (m : Nat) (L : List Ob) (A : Option Addr) (n c : Nat) (roots : List Nat) (V : Nat → Prop) (w : World) (h : RefAt w r S m L) (hl : Lies m 1 L) (hm : m ≤ 65536) (hx : WordsAt w V A n roots) (hn : n ≤ 1000) (hv : ∀ o ∈ L, ∀ x ∈ o.fs, x < 18446744073709551616) :
    Calls Tryd.prog 43 #[.pointer (some ⟨r, 0, none⟩), .slice A n c] w (ClosIs L roots w) := by
  obtain ⟨i0, hi0, hz0, hz1, hz2⟩ := info_parts infoInt
  have H := Lib.hid h
  have HL := Lib.hid hl
  have hlen := lies_len hl hm
  have HX := Lib.hid hx
  have HV := Lib.hid hv
  have HRL := Lib.hid hx.1
  clear h hl hx hv
  go_enter Tryd.func43, Tryd.ntmps43
  go_wp2_with fail
  have HG0 : Hid (Grows w.heap.size w (w.alloc (.cells #[] 3)) (.slice (some ⟨w.heap.size, 0, none⟩) 0 0) []) := Lib.hid ⟨⟨⟨rfl, .inr ⟨w.heap.size, 0, #[], rfl, Nat.zero_le _, heap_alloc_new w _, Nat.le_refl _, by unfold maxLen; decide, rfl, rfl⟩⟩, fun g hg => by have := Option.some.inj hg; exact Nat.le_of_eq this⟩, below_one _, by simp⟩
  go_loopw [6, 5] (fun vi vv wr => ∃ (i : Nat) (v : Value) (out : List Nat), i ≤ n ∧ vi = .int .i64 i ∧ vv = v ∧ Hid (Grows w.heap.size w wr v out) ∧ Hid (Clo L roots i 0 out)) (fun vi _ _ => n - (intOf vi).toNat)
  case atStart => exact ⟨0, _, [], by omega, by go_num, rfl, HG0, Lib.hid (clo_start L roots)⟩
  case round =>
    obtain ⟨i, vv, out, hin', rfl, rfl, HG, HC⟩ := hrel
    clear HG0
    have hof := HC.out.few hlen
    by_cases hil : i < n
    · have g2 : decide ((i : Int) < (n : Int)) = true := decide_eq_true (by omega)
      have hx2 := HX.out.keep (w' := wr) HG.out.2.1.size fun b hb _ => HG.out.2.1.block b hb
      obtain ⟨b, off, rfl, hbl, _, hc⟩ := hx2.2.2 i hil
      obtain ⟨x, hxd⟩ : ∃ x, roots.getD i 0 = x := ⟨_, rfl⟩
      have hx64 : x < 18446744073709551616 := by rw [← hxd]; exact HX.out.2.1 _ (getD_mem (by rw [HRL.out]; exact hil))
      rw [hxd] at hc
      have HXD := Lib.hid hxd
      have HRC := Lib.hid (reaches_any r S m L x wr (H.out.below HG.out.2.1) HL.out hlen hx64)
      clear hx2 hxd
      by_cases ha0 : reachW L x = 0
      · have HSAME := Lib.hid (HC.out.root (fun hin => absurd hin (by rw [HXD.out]; exact reach_not ha0 HL.out)))
        rw [ha0] at HRC
        clear ha0 hx64
        go_wp2_with fail
        refine HRC.out.mono ?_
        rintro e w' ⟨rfl, rfl⟩
        go_wp2_with fail
        go_roundw
        case rel => exact ⟨i + 1, _, out, by omega, by go_num, rfl, HG, HSAME⟩
        case measure => simp [intOf]; omega
      · obtain ⟨hin, hre⟩ := reach_is ha0
        have hpos := isIn_range HL.out hin
        rw [hre] at HRC
        have g7 : decide (0 < (addrW x : Int)) = true := decide_eq_true (by omega)
        have g8 : 0 < addrW x := by omega
        have HRE : Hid (Reached L roots (addrW x)) := Lib.hid (.root (by rw [← HXD.out]; exact getD_mem (by rw [HRL.out]; omega)) hin)
        obtain ⟨A5, c5, rfl, hs5⟩ := HG.out.1.seen
        have HIN := Lib.hid (in_any A5 out c5 (addrW x : Nat) wr hs5 (by omega))
        have hbb : inB out (addrW x : Nat) = decide (addrW x ∈ out) := by
          unfold inB
          rw [decide_eq_decide]
          exact ⟨fun ⟨b, hb, he⟩ => by rw [show addrW x = b by omega]; exact hb, fun hb => ⟨_, hb, rfl⟩⟩
        rw [hbb] at HIN
        clear hbb hs5
        by_cases hmem : addrW x ∈ out
        · rw [decide_eq_true hmem] at HIN
          have HSAME := Lib.hid (HC.out.root (fun _ => by rw [HXD.out]; exact hmem))
          clear ha0 hmem hin hre hpos hx64
          generalize addrW x = ad at *
          go_wp2_with fail
          refine HRC.out.mono ?_
          rintro e w' ⟨rfl, rfl⟩
          go_wp2_with fail
          refine HIN.out.mono ?_
          rintro e w' ⟨rfl, rfl⟩
          go_wp2_with fail
          go_roundw
          case rel => exact ⟨i + 1, _, out, by omega, by go_num, rfl, HG, HSAME⟩
          case measure => simp [intOf]; omega
        · rw [decide_eq_false hmem] at HIN
          have HMORE := Lib.hid ((HC.out.add HRE.out hmem (Nat.zero_le _)).root (fun _ => by rw [HXD.out]; simp))
          clear ha0 hmem hin hre hpos hx64
          generalize addrW x = ad at *
          have hown : Hid ((wr.alloc (.cells #[.int .i64 (ad : Int)] 3)).ownsRow 0 3 1 (.slice A5 out.length c5) out.length (nums .i64 out)) := Lib.hid (HG.out.1.1.alloc _)
          have hsrc := Lib.hid (one_src wr ad)
          have hone := Lib.hid (one_cell ad)
          go_wp2_with fail
          refine HRC.out.mono ?_
          rintro e w' ⟨rfl, rfl⟩
          go_wp2_with fail
          refine HIN.out.mono ?_
          rintro e w' ⟨rfl, rfl⟩
          go_wp2_with (at_builtin; refine wpList_append_own_at _ rfl (.tmp 33) (.tmp 35) 61 rfl 0 3 i0 _ 1 8 Tryd.underlying61 hi0 hz0 hz1 hz2 rfl (by decide) _ _ _ rfl hown.out ⟨wr.heap.size, 0, none⟩ 1 1 [.int .i64 (ad : Int)] rfl rfl hsrc.out hone.out (by unfold maxLen; omega) (by omega) (Nat.zero_le _) ?_)
          intro v1 w4 hown1 hgr1 hnn1 hat1
          have HG1 := Lib.hid (HG.out.push hown1 hgr1 (by simpa using hat1))
          have HGR := Lib.hid hgr1
          clear hown1 hgr1 hnn1 hat1 hown hsrc hone
          go_wp2_with fail
          go_roundw
          case rel => exact ⟨i + 1, _, _, by omega, by go_num, rfl, HG1, HMORE⟩
          case measure => simp [intOf]; omega
    · have g2 : decide ((i : Int) < (n : Int)) = false := decide_eq_false (by omega)
      obtain rfl : i = n := by omega
      have hof2 := hof
      obtain ⟨A5, c5, rfl, _⟩ := HG.out.1.seen
      have HG0 := HG
      have HC0 := HC
      clear HG HC hof hof2 hin'
      go_wp2_with fail
      go_loopw [8, 5] (fun vi vv wr => ∃ (i2 : Nat) (v : Value) (out : List Nat), i2 ≤ out.length ∧ vi = .int .i64 i2 ∧ vv = v ∧ Hid (Grows w.heap.size w wr v out) ∧ Hid (Clo L roots i i2 out)) (fun vi _ _ => 65537 - (intOf vi).toNat)
      case atStart => exact ⟨0, _, out, by omega, by go_num, rfl, HG0, HC0⟩
      case round =>
        obtain ⟨i2, vv, out, hi2, rfl, rfl, HG, HC⟩ := hrel
        clear HG0 HC0
        have hof := HC.out.few hlen
        obtain ⟨A5, c5, rfl, hs5⟩ := HG.out.1.seen
        by_cases hil : i2 < out.length
        · have g2 : decide ((i2 : Int) < (out.length : Int)) = true := decide_eq_true (by omega)
          have g2' : decide (i2 < out.length) = true := decide_eq_true hil
          obtain ⟨b5, rfl, hb5, kb5⟩ := hs5 i2 hil
          have HRA := Lib.hid (HC.out.sound _ (getD_mem hil))
          obtain ⟨o, hob⟩ := isIn_some HRA.out.isIn
          obtain ⟨hmo, hao⟩ := find_mem hob
          obtain ⟨k, hkl, hk⟩ := List.getElem_of_mem hmo
          have hk : L[k]? = some o := by rw [List.getElem?_eq_getElem hkl, hk]
          obtain ⟨Ar, cr, _, c1w, hs⟩ := H.out.seen
          obtain ⟨g, rfl, hgw, k0w, k1w, Fs, cf, k2w, hfs⟩ := hs k o hk
          have hrw := H.out.lt
          have c1 := (HG.out.2.1.cell (p := ⟨r, 1, none⟩) hrw).trans c1w
          have k0 := (HG.out.2.1.cell (p := ⟨g, k * 3, none⟩) hgw).trans k0w
          have k1 := (HG.out.2.1.cell (p := ⟨g, k * 3 + 1, none⟩) hgw).trans k1w
          have k2 := (HG.out.2.1.cell (p := ⟨g, k * 3 + 2, none⟩) hgw).trans k2w
          have hg : g < wr.heap.size := Nat.lt_of_lt_of_le hgw HG.out.2.1.size
          have hrr : r < wr.heap.size := Nat.lt_of_lt_of_le hrw HG.out.2.1.size
          have HFS := Lib.hid hfs
          have HFD := Lib.hid (fun W (hW : RefAt W r S m L) => find_same r S m L W hW HL.out hlen hk)
          have HOB := Lib.hid hob
          have HKD : Hid (kidsOf L o.at_ = if o.kind = 1 then [] else o.fs) := Lib.hid (by rw [hao]; exact kids_some hob)
          have HAO := Lib.hid hao
          have HVO := Lib.hid (HV.out o hmo)
          have hofl := lies_fields HL.out hm o hmo
          rw [← hao] at kb5
          have g3 : (k : Int) < (L.length : Int) := by omega
          have g4 : (0 : Int) ≤ (k : Int) := by omega
          have g5 : (i2 : Int) < (out.length : Int) := by omega
          have g6 : (0 : Int) ≤ (i2 : Int) := by omega
          clear hs hfs hs5 hk hob hmo hao c1w k0w k1w k2w hrw hgw
          go_upto_region 11 with fail
          go_cut [9] from 43 to 54 (fun v9 wx => ∃ p : Nat, v9 = .pointer (some ⟨p, 0, none⟩) ∧ Hid (OneOb wr wx p o Fs cf))
          case first =>
            have E1 : IntKind.i64.wrap (i2 : Int) = (i2 : Int) := by rw [IntKind.wrap_i64]; omega
            have E2 : IntKind.i64.wrap (k : Int) = (k : Int) := by rw [IntKind.wrap_i64]; omega
            go_region_held3 (fun W => W.cell? ⟨r, 1, none⟩ = some (.slice (some ⟨g, 0, none⟩) L.length cr) ∧ W.cell? ⟨b5, i2, none⟩ = some (.int .i64 (o.at_ : Int)) ∧ W.cell? ⟨g, k * 3, none⟩ = some (.int .i64 (o.at_ : Int)) ∧ W.cell? ⟨g, k * 3 + 1, none⟩ = some (.int .i64 (o.kind : Int)) ∧ W.cell? ⟨g, k * 3 + 2, none⟩ = some (.slice Fs o.fs.length cf)) (go_keep)
              ((go_at_call 69; refine (HFD.out _ ?_).mono ?_; (first | exact ((H.out.below HG.out.2.1).below (below_one _)).drew | exact (H.out.below HG.out.2.1).drew); rintro e w' ⟨rfl, rfl⟩))
            all_goals
              go_wp2_with fail
              go_meet
              exact ⟨_, rfl, Lib.hid ⟨heap_alloc_new wr _, (below_one _).drew, Nat.le_refl _⟩⟩
          case rest =>
            obtain ⟨p, rfl, HOO⟩ := hcut
            have HKI : Hid (Kids L roots i i2 o 0 out) := Lib.hid ⟨HC.out, hil, HAO.out.symm, fun j hj => by omega⟩
            have HSI : Hid (Side w.heap.size w wc (.slice (some ⟨b5, 0, none⟩) out.length c5) out p o Fs cf) := Lib.hid ⟨HG.out.below HOO.out.2.1, HOO.out.1⟩
            have HRO : Hid (Reached L roots o.at_) := Lib.hid (by rw [HAO.out]; exact HRA.out)
            clear HG HC HOO c1 k0 k1 k2 kb5 hg hrr g3 g4 g5 g6 hb5 HAO HRA HFD
            go_wp2_with fail
            go_loopw [10, 5] (fun vt vv wr => ∃ (t : Nat) (v : Value) (out : List Nat), t ≤ o.fs.length ∧ vt = .int .i64 t ∧ vv = v ∧ Hid (Side w.heap.size w wr v out p o Fs cf) ∧ Hid (Kids L roots i i2 o t out)) (fun vt _ _ => o.fs.length - (intOf vt).toNat)
            case atStart => exact ⟨0, _, out, by omega, by go_num, rfl, HSI, HKI⟩
            case round =>
              obtain ⟨t, vv, out, ht, rfl, rfl, HSI2, HKI2⟩ := hrel
              clear HSI HKI
              have hof := HKI2.out.1.few hlen
              have hpb := HSI2.out.2
              have kp1 : wr.cell? ⟨p, 1, none⟩ = some (.int .i64 (o.kind : Int)) := by rw [Lib.cell_of_heap hpb]; rfl
              have kp2 : wr.cell? ⟨p, 2, none⟩ = some (.slice Fs o.fs.length cf) := by rw [Lib.cell_of_heap hpb]; rfl
              have hpl := lt_of_heap hpb
              clear hpb
              by_cases hend : t < o.fs.length ∧ o.kind ≠ 1
              · have htl := hend.1
                have g2 : decide ((t : Int) < (o.fs.length : Int)) = true := decide_eq_true (by omega)
                have g2' : decide (t < o.fs.length) = true := decide_eq_true htl
                have B1 : ((o.kind : Int) != 1) = true := by rw [bne_iff_ne]; have := hend.2; omega
                have hkd := HKD.out
                rw [if_neg hend.2] at hkd
                obtain ⟨x, hxd⟩ : ∃ x, o.fs.getD t 0 = x := ⟨_, rfl⟩
                have hxm : x ∈ o.fs := by rw [← hxd]; exact getD_mem htl
                have hx64 := HVO.out x hxm
                obtain ⟨f, rfl, hfl, kfw⟩ := HFS.out t x (by
                  have h2 : o.fs[t]? = some (o.fs.getD t 0) := by rw [List.getD_eq_getElem?_getD, List.getElem?_eq_getElem htl]; rfl
                  rw [h2, hxd])
                have kf := (HSI2.out.1.2.1.cell (p := ⟨f, t, none⟩) hfl).trans kfw
                have hfr : f < wr.heap.size := Nat.lt_of_lt_of_le hfl HSI2.out.1.2.1.size
                have HXD := Lib.hid hxd
                have HXK : Hid (x ∈ kidsOf L o.at_) := Lib.hid (by rw [hkd]; exact hxm)
                have HG := Lib.hid HSI2.out.1
                have HRC := Lib.hid (reaches_any r S m L x wr (H.out.below HG.out.2.1) HL.out hlen hx64)
                clear hend hxd hxm hkd kfw
                by_cases ha0 : reachW L x = 0
                · have HSAME := Lib.hid (HKI2.out.same (fun hin => absurd hin (by rw [HXD.out]; exact reach_not ha0 HL.out)))
                  rw [ha0] at HRC
                  clear ha0 hx64
                  go_wp2_with fail
                  refine HRC.out.mono ?_
                  rintro e w' ⟨rfl, rfl⟩
                  go_wp2_with fail
                  go_roundw
                  case rel => exact ⟨t + 1, _, out, by omega, by go_num, rfl, HSI2, HSAME⟩
                  case measure => simp [intOf]; omega
                · obtain ⟨hin, hre⟩ := reach_is ha0
                  have hpos := isIn_range HL.out hin
                  rw [hre] at HRC
                  have g7 : decide (0 < (addrW x : Int)) = true := decide_eq_true (by omega)
                  have g8 : 0 < addrW x := by omega
                  have HRE : Hid (Reached L roots (addrW x)) := Lib.hid (.step HRO.out HXK.out hin)
                  obtain ⟨A5, c5, rfl, hs5⟩ := HG.out.1.seen
                  have HIN := Lib.hid (in_any A5 out c5 (addrW x : Nat) wr hs5 (by omega))
                  rw [inB_nat] at HIN
                  clear hs5
                  by_cases hmem : addrW x ∈ out
                  · rw [decide_eq_true hmem] at HIN
                    have HSAME := Lib.hid (HKI2.out.same (fun _ => by rw [HXD.out]; exact hmem))
                    clear ha0 hmem hin hre hpos hx64
                    generalize addrW x = ad at *
                    go_wp2_with fail
                    refine HRC.out.mono ?_
                    rintro e w' ⟨rfl, rfl⟩
                    go_wp2_with fail
                    refine HIN.out.mono ?_
                    rintro e w' ⟨rfl, rfl⟩
                    go_wp2_with fail
                    go_roundw
                    case rel => exact ⟨t + 1, _, out, by omega, by go_num, rfl, HSI2, HSAME⟩
                    case measure => simp [intOf]; omega
                  · rw [decide_eq_false hmem] at HIN
                    have HMORE := Lib.hid (HKI2.out.more HRE.out hmem (by rw [HXD.out]))
                    clear ha0 hmem hin hre hpos hx64
                    generalize addrW x = ad at *
                    have hown : Hid ((wr.alloc (.cells #[.int .i64 (ad : Int)] 3)).ownsRow 0 3 1 (.slice A5 out.length c5) out.length (nums .i64 out)) := Lib.hid (HG.out.1.1.alloc _)
                    have hsrc := Lib.hid (one_src wr ad)
                    have hone := Lib.hid (one_cell ad)
                    go_wp2_with fail
                    refine HRC.out.mono ?_
                    rintro e w' ⟨rfl, rfl⟩
                    go_wp2_with fail
                    refine HIN.out.mono ?_
                    rintro e w' ⟨rfl, rfl⟩
                    go_wp2_with (at_builtin; refine wpList_append_own_at _ rfl (.tmp 82) (.tmp 84) 61 rfl 0 3 i0 _ 1 8 Tryd.underlying61 hi0 hz0 hz1 hz2 rfl (by decide) _ _ _ rfl hown.out ⟨wr.heap.size, 0, none⟩ 1 1 [.int .i64 (ad : Int)] rfl rfl hsrc.out hone.out (by unfold maxLen; omega) (by omega) (Nat.zero_le _) ?_)
                    intro v1 w4 hown1 hgr1 hnn1 hat1
                    have HS1 := Lib.hid (HSI2.out.push hown1 hgr1 (by simpa using hat1))
                    clear hown1 hgr1 hnn1 hat1 hown hsrc hone
                    go_wp2_with fail
                    go_roundw
                    case rel => exact ⟨t + 1, _, _, by omega, by go_num, rfl, HS1, HMORE⟩
                    case measure => simp [intOf]; omega
              · have hce : o.fs.length ≤ t ∨ (t < o.fs.length ∧ o.kind = 1) := by
                  by_cases h1 : t < o.fs.length
                  · right
                    refine ⟨h1, ?_⟩
                    by_cases h2 : o.kind = 1
                    · exact h2
                    · exact absurd ⟨h1, h2⟩ hend
                  · left; omega
                have HC2 : Hid (Clo L roots i (i2 + 1) out) := Lib.hid (HKI2.out.1.next (by
                  rw [HKI2.out.2.2.1, HKD.out]
                  intro y hy hin
                  rcases hce with h1 | ⟨h1, h2⟩
                  · split at hy
                    · cases hy
                    · obtain ⟨j, hj, rfl⟩ := mem_getD hy
                      exact HKI2.out.2.2.2 j (by omega) hin
                  · rw [if_pos h2] at hy; cases hy))
                have hi3 := HKI2.out.2.1
                have HG2 := Lib.hid HSI2.out.1
                obtain ⟨A6, c6, rfl, _⟩ := HG2.out.1.seen
                rcases hce with h1 | ⟨h1, h2⟩
                · have g2 : decide ((t : Int) < (o.fs.length : Int)) = false := decide_eq_false (by omega)
                  have g2' : decide (t < o.fs.length) = false := decide_eq_false (by omega)
                  clear hend
                  go_wp2_with fail
                  go_roundw
                  case rel => exact ⟨i2 + 1, _, out, by omega, by go_num, rfl, HG2, HC2⟩
                  case measure => simp [intOf]; omega
                · have g2 : decide ((t : Int) < (o.fs.length : Int)) = true := decide_eq_true (by omega)
                  have g2' : decide (t < o.fs.length) = true := decide_eq_true h1
                  have B1 : ((o.kind : Int) != 1) = false := by rw [h2]; rfl
                  clear hend
                  go_wp2_with fail
                  go_roundw
                  case rel => exact ⟨i2 + 1, _, out, by omega, by go_num, rfl, HG2, HC2⟩
                  case measure => simp [intOf]; omega
        · have g2 : decide ((i2 : Int) < (out.length : Int)) = false := decide_eq_false (by omega)
          have g2' : decide (i2 < out.length) = false := decide_eq_false hil
          obtain rfl : i2 = out.length := by omega
          have HCI : Hid (ClosIs L roots w (.returned (.slice A5 out.length c5)) wr) := Lib.hid ⟨_, out, rfl, HG.out, HC.out.nd, hof, by
            have := HC.out
            rw [← HRL.out] at this
            exact this.full⟩
          go_wp2_with fail
          go_ret
          exact HCI.out
end Go.Proofs.YtbmkjlpjgkfjcaaDoor
