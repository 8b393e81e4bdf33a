/-
  The walks of the library's Clone at words, marks and runs, and of the heap's Copy.
-/
import Derived.Test.YtbmkjlpjgkfjcaaDoorHNew
namespace Go.Proofs.YtbmkjlpjgkfjcaaDoor
open Go.RowKit
/-- A row of words of one's own is returned; what was there stands. -/
def WordsMade (t : TypeId) (l : List Nat) (w : World) (e : Ending) (w' : World) : Prop :=
  ∃ g' k', e = .returned (.slice (some ⟨g', 0, none⟩) l.length k') ∧ Words w' t g' k' l ∧ Below w.heap.size w w' ∧ w.heap.size ≤ g'
def RunsNew (l : List (Nat × Nat)) (w : World) (e : Ending) (w' : World) : Prop :=
  ∃ g' k', e = .returned (.slice (some ⟨g', 0, none⟩) l.length k') ∧ Runs w' g' k' l ∧ Below w.heap.size w w' ∧ w.heap.size ≤ g'
theorem u64s_one (l : List Nat) : ∀ u ∈ u64s l, u.oneCell' = true := by
  intro u hu
  simp only [u64s, List.mem_map] at hu
  obtain ⟨x, _, rfl⟩ := hu
  rfl
theorem below_of_grown {w w' : World} {o : Obj} (h : (w.alloc o).grownBy w' (some w.heap.size)) : Below w.heap.size w w' :=
  ((Below.refl _ w).alloc (Nat.le_refl _) o).grown h (by simp) (fun k hk => by have := Option.some.inj hk; omega)
set_option maxHeartbeats 1000000 in
theorem clone_cells (g k : Nat) (l : List Nat) (w : World) (hw : Words w 30 g k l) (hn : l.length ≤ 65536) :
    Calls Tryd.prog 78 #[.slice (some ⟨g, 0, none⟩) l.length k] w (WordsMade 30 l w) := by
  obtain ⟨i0, hi0, hz0, hz1, hz2⟩ := info_parts info30
  have hnil := Lib.run_eql_slice_nil (P := Tryd.prog) (w := w)
  have hlt := hw.lt
  have HW := Lib.hid hw
  have hown : Hid ((w.alloc (.cells #[] 30)).ownsRow 0 30 1 (.slice (some ⟨w.heap.size, 0, none⟩) 0 0) 0 []) := Lib.hid (World.ownsRow_made w #[] 0 (Nat.zero_le _) (Nat.zero_le _) rfl)
  have hsrc : Hid (∀ j u, (u64s l)[j]? = some u → (w.alloc (.cells #[] 30)).cell? ((⟨g, 0, none⟩ : Addr).add j) = some u) := Lib.hid (fun j u hu => by
    have h := World.ownsRow.cells hw (g := g) rfl j u hu
    refine (World.cell?_of_block (w := w) ?_).trans h
    have hb : ((⟨g, 0, none⟩ : Addr).add j).block = g := by unfold Addr.add; split <;> rfl
    rw [hb]
    exact Below.heap_alloc w _ g hlt)
  clear hw
  go_enter Tryd.func78, Tryd.ntmps78
  go_wp2_with (at_builtin; refine wpList_append_own_at _ rfl (.tmp 5) (.tmp 6) 43 rfl 0 30 i0 _ 1 8 Tryd.underlying43 hi0 hz0 hz1 hz2 rfl (by decide) _ _ _ rfl hown.out ⟨g, 0, none⟩ l.length k (u64s l) rfl (by rw [u64s_len]; omega) hsrc.out (u64s_one l) (by unfold maxLen; omega) (by omega) (Nat.zero_le _) ?_)
  intro v' w1 hown' hgr hnn hat
  obtain ⟨g', k', rfl⟩ : ∃ g' k', v' = .slice (some ⟨g', 0, none⟩) l.length k' := by
    rcases hown'.2 with ⟨h, _⟩ | ⟨g', k', _, h, _⟩
    · exact (hnn h).elim
    · exact ⟨g', k', h⟩
  have HO := Lib.hid hown'
  have HB := Lib.hid (below_of_grown hgr)
  have HX : Hid (w.heap.size ≤ g') := Lib.hid (by simp [Value.ownBlock] at hat; omega)
  clear hown' hgr hnn hat
  go_wp2_with fail
  go_ret
  exact ⟨g', k', rfl, HO.out, HB.out, HX.out⟩
set_option maxHeartbeats 1000000 in
theorem clone_marks (g k : Nat) (l : List Nat) (w : World) (hw : Words w 29 g k l) (hn : l.length ≤ 65536) :
    Calls Tryd.prog 79 #[.slice (some ⟨g, 0, none⟩) l.length k] w (WordsMade 29 l w) := by
  obtain ⟨i0, hi0, hz0, hz1, hz2⟩ := info_parts info29
  have hnil := Lib.run_eql_slice_nil (P := Tryd.prog) (w := w)
  have hlt := hw.lt
  have HW := Lib.hid hw
  have hown : Hid ((w.alloc (.cells #[] 29)).ownsRow 0 29 1 (.slice (some ⟨w.heap.size, 0, none⟩) 0 0) 0 []) := Lib.hid (World.ownsRow_made w #[] 0 (Nat.zero_le _) (Nat.zero_le _) rfl)
  have hsrc : Hid (∀ j u, (u64s l)[j]? = some u → (w.alloc (.cells #[] 29)).cell? ((⟨g, 0, none⟩ : Addr).add j) = some u) := Lib.hid (fun j u hu => by
    have h := World.ownsRow.cells hw (g := g) rfl j u hu
    refine (World.cell?_of_block (w := w) ?_).trans h
    have hb : ((⟨g, 0, none⟩ : Addr).add j).block = g := by unfold Addr.add; split <;> rfl
    rw [hb]
    exact Below.heap_alloc w _ g hlt)
  clear hw
  go_enter Tryd.func79, Tryd.ntmps79
  go_wp2_with (at_builtin; refine wpList_append_own_at _ rfl (.tmp 5) (.tmp 6) 107 rfl 0 29 i0 _ 1 8 Tryd.underlying107 hi0 hz0 hz1 hz2 rfl (by decide) _ _ _ rfl hown.out ⟨g, 0, none⟩ l.length k (u64s l) rfl (by rw [u64s_len]; omega) hsrc.out (u64s_one l) (by unfold maxLen; omega) (by omega) (Nat.zero_le _) ?_)
  intro v' w1 hown' hgr hnn hat
  obtain ⟨g', k', rfl⟩ : ∃ g' k', v' = .slice (some ⟨g', 0, none⟩) l.length k' := by
    rcases hown'.2 with ⟨h, _⟩ | ⟨g', k', _, h, _⟩
    · exact (hnn h).elim
    · exact ⟨g', k', h⟩
  have HO := Lib.hid hown'
  have HB := Lib.hid (below_of_grown hgr)
  have HX : Hid (w.heap.size ≤ g') := Lib.hid (by simp [Value.ownBlock] at hat; omega)
  clear hown' hgr hnn hat
  go_wp2_with fail
  go_ret
  exact ⟨g', k', rfl, HO.out, HB.out, HX.out⟩
set_option maxHeartbeats 1000000 in
theorem clone_runs (g k : Nat) (l : List (Nat × Nat)) (w : World) (hw : Runs w g k l) (hn : l.length ≤ 65536) :
    Calls Tryd.prog 80 #[.slice (some ⟨g, 0, none⟩) l.length k] w (RunsNew l w) := by
  obtain ⟨i0, hi0, hz0, hz1, hz2⟩ := info_parts infoRun
  have hnil := Lib.run_eql_slice_nil (P := Tryd.prog) (w := w)
  have hlt := hw.lt
  have HW := Lib.hid hw
  have hown : Hid ((w.alloc (.cells #[] 110)).ownsRow 0 110 2 (.slice (some ⟨w.heap.size, 0, none⟩) 0 0) 0 []) := Lib.hid (World.ownsRow_made w #[] 0 (Nat.zero_le _) (Nat.zero_le _) rfl)
  have hsrc : Hid (∀ j u, (rcs l)[j]? = some u → (w.alloc (.cells #[] 110)).cell? ((⟨g, 0, none⟩ : Addr).add j) = some u) := Lib.hid (fun j u hu => by
    have h := World.ownsRow.cells hw (g := g) rfl j u hu
    refine (World.cell?_of_block (w := w) ?_).trans h
    have hb : ((⟨g, 0, none⟩ : Addr).add j).block = g := by unfold Addr.add; split <;> rfl
    rw [hb]
    exact Below.heap_alloc w _ g hlt)
  clear hw
  go_enter Tryd.func80, Tryd.ntmps80
  go_wp2_with (at_builtin; refine wpList_append_own_at _ rfl (.tmp 5) (.tmp 6) 112 rfl 0 110 i0 _ 2 16 Tryd.underlying112 hi0 hz0 hz1 hz2 rfl (by decide) _ _ _ rfl hown.out ⟨g, 0, none⟩ l.length k (rcs l) rfl (rcs_len l) hsrc.out (rcs_one l) (by unfold maxLen; omega) (by omega) (Nat.zero_le _) ?_)
  intro v' w1 hown' hgr hnn hat
  obtain ⟨g', k', rfl⟩ : ∃ g' k', v' = .slice (some ⟨g', 0, none⟩) l.length k' := by
    rcases hown'.2 with ⟨h, _⟩ | ⟨g', k', _, h, _⟩
    · exact (hnn h).elim
    · exact ⟨g', k', h⟩
  have HO := Lib.hid hown'
  have HB := Lib.hid (below_of_grown hgr)
  have HX : Hid (w.heap.size ≤ g') := Lib.hid (by simp [Value.ownBlock] at hat; omega)
  clear hown' hgr hnn hat
  go_wp2_with fail
  go_ret
  exact ⟨g', k', rfl, HO.out, HB.out, HX.out⟩
def CopyMade (n m : Nat) (cs ms : List Nat) (rs : List (Nat × Nat)) (w : World) (e : Ending) (w' : World) : Prop :=
  ∃ Y : Lay, e = .returned (.pointer (some ⟨Y.hb, 0, none⟩)) ∧ cs.length = n ∧ ms.length = m ∧ Mem w' Y cs ms rs ∧ Below w.heap.size w w' ∧ ∀ b, Y.own b → w.heap.size ≤ b
set_option maxHeartbeats 4000000 in
set_option maxRecDepth 100000 in
theorem copy_any (Y : Lay) (cs ms : List Nat) (rs : List (Nat × Nat)) (w : World) (hm : Mem w Y cs ms rs) (h1 : cs.length ≤ 65536) (h2 : ms.length ≤ 65536) (h3 : rs.length ≤ 65536) :
    Calls Tryd.prog 17 #[.pointer (some ⟨Y.hb, 0, none⟩)] w (CopyMade cs.length ms.length cs ms rs w) := by
  have c0 := hm.head.cell0
  have c1 := hm.head.cell1
  have c2 := hm.head.cell2
  have hlt := hm.head.lt
  have HM := Lib.hid hm
  clear hm
  go_enter Tryd.func17, Tryd.ntmps17
  go_wp2_with fail
  have HB : Hid (Below w.heap.size w w.drew) := Lib.hid (Below.refl _ w).drew
  go_region_held3 (fun W => W.cell? ⟨Y.hb, 0, none⟩ = some (.slice (some ⟨Y.cb, 0, none⟩) cs.length Y.kc) ∧ W.cell? ⟨Y.hb, 1, none⟩ = some (.slice (some ⟨Y.mb, 0, none⟩) ms.length Y.km) ∧ W.cell? ⟨Y.hb, 2, none⟩ = some (.slice (some ⟨Y.fb, 0, none⟩) rs.length Y.kf)) (go_keep)
    (first | (go_at_call 78; refine (clone_cells Y.cb Y.kc cs _ ?_ h1).mono ?_; exact HM.out.words.keep (HB.out.block _ HM.out.words.lt); rintro e W1 ⟨gc, kc, rfl, hf, hb, zc⟩; have FC := Lib.hid hf; (first | (have FM' := Lib.hid (FM.out.keep (hb.block _ (FM.out.lt))); clear FM; have FM := FM'; clear FM') | skip); (first | (have FF' := Lib.hid (FF.out.keep (hb.block _ (FF.out.lt))); clear FF; have FF := FF'; clear FF') | skip); have HB' := Lib.hid (HB.out.trans (hb.mono HB.out.size)); have zc' := Lib.hid (Nat.le_trans HB.out.size zc); clear HB hf hb zc; have HB := HB'; clear HB'; have k0 := (HB.out.cell (p := ⟨Y.hb, 0, none⟩) hlt).trans c0; have k1 := (HB.out.cell (p := ⟨Y.hb, 1, none⟩) hlt).trans c1; have k2 := (HB.out.cell (p := ⟨Y.hb, 2, none⟩) hlt).trans c2) | (go_at_call 79; refine (clone_marks Y.mb Y.km ms _ ?_ h2).mono ?_; exact HM.out.marks.keep (HB.out.block _ HM.out.marks.lt); rintro e W1 ⟨gm, km, rfl, hf, hb, zm⟩; have FM := Lib.hid hf; (first | (have FC' := Lib.hid (FC.out.keep (hb.block _ (FC.out.lt))); clear FC; have FC := FC'; clear FC') | skip); (first | (have FF' := Lib.hid (FF.out.keep (hb.block _ (FF.out.lt))); clear FF; have FF := FF'; clear FF') | skip); have HB' := Lib.hid (HB.out.trans (hb.mono HB.out.size)); have zm' := Lib.hid (Nat.le_trans HB.out.size zm); clear HB hf hb zm; have HB := HB'; clear HB'; have k0 := (HB.out.cell (p := ⟨Y.hb, 0, none⟩) hlt).trans c0; have k1 := (HB.out.cell (p := ⟨Y.hb, 1, none⟩) hlt).trans c1; have k2 := (HB.out.cell (p := ⟨Y.hb, 2, none⟩) hlt).trans c2) | (go_at_call 80; refine (clone_runs Y.fb Y.kf rs _ ?_ h3).mono ?_; exact HM.out.runs.keep (HB.out.block _ HM.out.runs.lt); rintro e W1 ⟨gf, kf, rfl, hf, hb, zf⟩; have FF := Lib.hid hf; (first | (have FC' := Lib.hid (FC.out.keep (hb.block _ (FC.out.lt))); clear FC; have FC := FC'; clear FC') | skip); (first | (have FM' := Lib.hid (FM.out.keep (hb.block _ (FM.out.lt))); clear FM; have FM := FM'; clear FM') | skip); have HB' := Lib.hid (HB.out.trans (hb.mono HB.out.size)); have zf' := Lib.hid (Nat.le_trans HB.out.size zf); clear HB hf hb zf; have HB := HB'; clear HB'; have k0 := (HB.out.cell (p := ⟨Y.hb, 0, none⟩) hlt).trans c0; have k1 := (HB.out.cell (p := ⟨Y.hb, 1, none⟩) hlt).trans c1; have k2 := (HB.out.cell (p := ⟨Y.hb, 2, none⟩) hlt).trans c2))
  all_goals
    go_wp2_with fail
    go_ret
    refine ⟨⟨W1.heap.size, gc, gm, gf, kc, km, kf⟩, rfl, rfl, rfl, ⟨heap_alloc_new W1 _, FC.out.keep (Below.heap_alloc W1 _ _ FC.out.lt), FM.out.keep (Below.heap_alloc W1 _ _ FM.out.lt), FF.out.keep (Below.heap_alloc W1 _ _ FF.out.lt)⟩, HB.out.alloc HB.out.size _, ?_⟩
    rintro b (e | e | e | e)
    · rw [e]; exact HB.out.size
    · rw [e]; exact zc'.out
    · rw [e]; exact zm'.out
    · rw [e]; exact zf'.out
end Go.Proofs.YtbmkjlpjgkfjcaaDoor
