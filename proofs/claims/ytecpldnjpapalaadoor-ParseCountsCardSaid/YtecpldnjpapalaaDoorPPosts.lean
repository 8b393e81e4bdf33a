/-
  The walk of posts.
-/
import Derived.Test.YtecpldnjpapalaaDoorGNode
import Derived.Maps.AppendAt
import Derived.Deep.RegionHeld3
import Derived.BigQuiet
import Derived.RegionDies
namespace Go.Proofs.YtecpldnjpapalaaDoor
open Go.RowKit
theorem infoExpr : (Tryd.prog.info? 28).map (fun i => (i.zero, i.size, i.bytes)) = some (some (.agg #[.int .i64 0, .int .i64 0, .string ⟨#[]⟩, .int .i64 0, .string ⟨#[]⟩, .slice none 0 0, .slice none 0 0, .slice none 0 0]), 8, 128) := by kernel_rfl
theorem ex_info : ∃ i : TypeInfo, Tryd.prog.info? 28 = some i ∧ i.zero = some (.agg #[.int .i64 0, .int .i64 0, .string ⟨#[]⟩, .int .i64 0, .string ⟨#[]⟩, .slice none 0 0, .slice none 0 0, .slice none 0 0]) ∧ i.size = 8 ∧ i.bytes = 128 := by
  have h := infoExpr
  cases hi : Tryd.prog.info? 28 with
  | none => rw [hi] at h; cases h
  | some i =>
    rw [hi] at h
    have h := Option.some.inj h
    exact ⟨i, rfl, congrArg (fun x => x.1) h, congrArg (fun x => x.2.1) h, congrArg (fun x => x.2.2) h⟩
theorem ex_cells (w : World) (x : Nd) (s : Sl) : ∀ (j : Nat) (u : Value), (exL x s)[j]? = some u → (w.alloc (exObj x s)).cell? ((⟨w.heap.size, 0, none⟩ : Addr).add j) = some u := by
  intro j u hj
  rw [Addr.add_lit, Lib.cell_of_heap (box_at w _ _ rfl)]
  simpa [exL] using hj
theorem ex_one (x : Nd) (s : Sl) : ∀ u ∈ exL x s, u.oneCell' = true := by
  intro u hu
  simp only [exL, List.mem_cons, List.not_mem_nil, or_false] at hu
  rcases hu with rfl | rfl | rfl | rfl | rfl | rfl | rfl | rfl <;> rfl
set_option maxRecDepth 100000 in
set_option maxHeartbeats 4000000 in
theorem w_posts (f p : Nat) (n : Nat) (hn : n ≤ 3) (hp1 : ∀ k, k ≤ f → Says k .post 73 #[ptrV p] p) : SaysR (f + 1) (.posts n []) 98 #[ptrV p, .int .i64 (n : Nat)] p := by
  intro T w hp hne
  have HLT := Lib.hid hp.lt
  have HK := Lib.hid (Keep.start hp)
  have HP1 := Lib.hid hp1
  have HN := Lib.hid hne
  have HR0 : Hid (∃ k, k ≤ f + 1 ∧ run (f + 1) (.posts n []) T = run k (.posts (n - 0) []) T) := Lib.hid ⟨f + 1, Nat.le_refl _, rfl⟩
  generalize run (f + 1) (.posts n []) T = res at *
  obtain ⟨i0, hi0, hz0, hz1, hz2⟩ := ex_info
  have HG0 : Hid (GRow w.heap.size 28 8 w (.slice none 0 0) 0 [] (fun W N => IsEs W N [] [])) := Lib.hid (GRow.start trivial)
  clear hp hne hp1
  go_enter Tryd.func98, Tryd.ntmps98
  go_wp2_with fail
  go_loopw [5, 7] (fun vl vi wr => ∃ (i : Nat) (l : List Nd) (L : List (List Value)) (R : List Tok) (u : Value), u = vl ∧ i ≤ n ∧ vi = .int .i64 i ∧ l.length = i ∧ Hid (GRow w.heap.size 28 8 wr u i L.flatten (fun W N => IsEs W N L l)) ∧ Hid (Keep w p R wr) ∧ Hid (∃ k, k ≤ f + 1 ∧ res = run k (.posts (n - i) l) R)) (fun _ vi _ => n - (intOf vi).toNat)
  case atStart => exact ⟨0, [], [], T, _, rfl, by omega, by go_num, rfl, HG0, HK, HR0⟩
  case round =>
    obtain ⟨i, l, L, R, u, rfl, hi, rfl, hl, HG, HK, HRK⟩ := hrel
    clear HG0 HR0
    obtain ⟨k, hk, HRk⟩ := HRK.out
    by_cases hi2 : i < n
    · have g1 : decide ((i : Int) < (n : Int)) = true := decide_eq_true (by omega)
      obtain ⟨k, rfl⟩ : ∃ j, k = j + 1 := by
        cases k with
        | zero => exact absurd HRk HN.out
        | succ k => exact ⟨k, rfl⟩
      have HR : Hid (res = exec (run k) (step (.posts (n - i) l)) R) := Lib.hid HRk
      simp only [step] at HR
      rw [if_neg (by omega)] at HR
      simp only [exec] at HR
      have HPk := Lib.hid (HP1.out k (by omega))
      clear HRk HRK
      go_wp2_with fail
      cases hr : run k .post R with
      | out =>
        rw [hr] at HR
        exact absurd HR.out HN.out
      | bad R9 =>
        rw [hr] at HR
        refine (HPk.out R _ HK.out.at_ (by rw [hr]; exact fun h => by cases h)).mono ?_
        rw [hr]
        rintro e w8 ⟨t8, S8, rfl, rfl, hg⟩
        have HGR := Lib.hid (grown_trans HK.out.grown hg)
        clear hg hr
        unfold faultV
        go_wp2_with fail
        exact ⟨rfl, by rw [HR.out]; exact ⟨t8, S8, rfl, rfl, HGR.out⟩⟩
      | ok x R2 =>
        rw [hr] at HR
        refine (HPk.out R _ HK.out.at_ (by rw [hr]; exact fun h => by cases h)).mono ?_
        rw [hr]
        rintro e W2 ⟨s, rfl, ha, hk2⟩
        have HA : Hid (IsE W2 (fun g => w.heap.size ≤ g ∧ some g ≠ u.ownBlock) (exL x s) x) := Lib.hid (ha.wide fun g hg => ⟨Nat.le_trans HK.out.size hg, HG.out.new hg⟩)
        replace HG := Lib.hid (HG.out.keep (moves_es L l) hk2 HLT.out)
        replace HK := Lib.hid (HK.out.trans hk2)
        have hbx := below_one' (w := W2) (exObj x s)
        have hown : Hid ((W2.alloc (exObj x s)).ownsRow w.heap.size 28 8 u i L.flatten) := Lib.hid (HG.out.below (moves_es L l) hbx).own
        have HGb := Lib.hid (HG.out.below (moves_es L l) hbx)
        have HKb := Lib.hid (HK.out.below hbx)
        have HAb := Lib.hid (HA.out.below hbx)
        have hsrc := Lib.hid (ex_cells W2 x s)
        have hone := Lib.hid (ex_one x s)
        have hbw : w.heap.size ≤ (W2.alloc (exObj x s)).heap.size := by have := HKb.out.size; omega
        clear ha hr hk2 hbx HG HK HA
        unfold exOf exV
        go_wp2_with (at_builtin; refine wpList_append_own_at _ rfl (.tmp 9) (.tmp 12) 25 rfl w.heap.size 28 i0 _ 8 128 Tryd.underlying25 hi0 hz0 hz1 hz2 rfl (by decide) _ _ _ rfl hown.out ⟨W2.heap.size, 0, none⟩ 1 1 (exL x s) rfl rfl hsrc.out hone.out (by unfold maxLen; omega) (by omega) hbw ?_)
        intro v1 w4 hown1 hgr1 hnn1 hat1
        have HG2 : Hid (GRow w.heap.size 28 8 w4 v1 (i + 1) (L ++ [exL x s]).flatten (fun W N => IsEs W N (L ++ [exL x s]) (l ++ [x]))) := Lib.hid (by
          rw [← World.size_alloc W2 (exObj x s)] at hat1
          have h := HGb.out.push (Is' := fun W N => IsEs W N (L ++ [exL x s]) (l ++ [x])) hown1 hgr1 hat1 (fun h => IsEs.append h ⟨HAb.out, trivial⟩) (moves_es _ _)
          rwa [List.flatten_append, List.flatten_singleton])
        have HK2 := Lib.hid (HGb.out.keeps HKb.out (Nat.le_refl _) HLT.out hgr1).1
        obtain ⟨a1, c1, rfl⟩ := HG2.out.form
        clear hown1 hgr1 hnn1 hat1 hown hsrc hone hbw HGb HKb HAb
        go_wp2_with fail
        go_roundw
        case rel => exact ⟨i + 1, l ++ [x], L ++ [exL x s], R2, _, rfl, by omega, by go_num, by rw [List.length_append, hl]; rfl, HG2, HK2, Lib.hid ⟨k, by omega, by rw [HR.out, show n - (i + 1) = n - i - 1 by omega]; cases run k (.posts (n - i - 1) (l ++ [x])) R2 <;> rfl⟩⟩
        case measure => simp [intOf]; omega
    · have g1 : decide ((i : Int) < (n : Int)) = false := decide_eq_false (by omega)
      obtain ⟨k, rfl⟩ : ∃ j, k = j + 1 := by
        cases k with
        | zero => exact absurd HRk HN.out
        | succ k => exact ⟨k, rfl⟩
      have HR : Hid (res = .ok (bag [] l []) R) := Lib.hid (by
        rw [HRk, run_succ]
        simp only [step]
        rw [if_pos (by omega)]; rfl)
      obtain ⟨a1, c1, rfl⟩ := HG.out.form
      clear HRk HRK
      go_wp2_with fail
      go_ret
      rw [HR.out]
      refine ⟨a1, c1, by rw [show (bag [] l []).args = l from rfl, hl]; rfl, ⟨L, ?_, ?_⟩, HK.out⟩
      · rw [show (bag [] l []).args = l from rfl, hl]; exact HG.out.rowIn
      · exact HG.out.all (moves_es L l)
end Go.Proofs.YtecpldnjpapalaaDoor
