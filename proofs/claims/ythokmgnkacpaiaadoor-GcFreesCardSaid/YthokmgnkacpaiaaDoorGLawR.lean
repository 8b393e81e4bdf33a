/-
  The walk of the law GcFrees: whatever the input, it returns true and leaves what was there as it was. Condition: the table of math/bits holds what its initialiser lays.
  Ahead of it: only what was in reach when a cycle began, or was laid since, is marked, if only numbers are written, and into such objects alone (plain mathematics).
-/
import Derived.Test.YthokmgnkacpaiaaDoorGLawK
import Derived.Laws.AppendOwnNone
namespace Go.Proofs.YthokmgnkacpaiaaDoor
def Aliv (L0 : List Ob) (roots D : List Nat) (a : Nat) : Prop := Reached L0 roots a ∨ a ∈ D
theorem mem_set_or2 {l : List Nat} {i x y : Nat} (h : y ∈ l.set i x) : y ∈ l ∨ y = x := List.mem_or_eq_of_mem_set h
theorem odd_no2 {words x : Nat} {L : List Ob} (hl : Lies words 1 L) (h : x % 2 = 1) : ¬ IsIn L (addrW x) := fun hin => by
  have : addrW x = 0 := by unfold addrW; rw [if_pos (.inl h)]
  rw [this] at hin
  have := isIn_range hl hin
  omega
structure FInv (L0 : List Ob) (roots D : List Nat) (s : GS) : Prop where
  marked : ∀ a, a ∈ s.G ∨ a ∈ s.B → Aliv L0 roots D a
  fields : s.ph = 1 → ∀ a, Aliv L0 roots D a → ∀ x ∈ kidsOf s.L a, IsIn s.L (addrW x) → Aliv L0 roots D (addrW x)
  passed : s.ph = 2 → ∀ a, IsIn s.L a → a < s.pos → Aliv L0 roots D a
  ended : s.ph = 0 → ∀ a, IsIn s.L a → Aliv L0 roots D a
theorem FInv.begin {words : Nat} {s : GS} (hi : GInv words s) (roots : List Nat) (h0 : s.ph = 0) : FInv s.L roots [] (s.begin roots).2 := by
  unfold GS.begin
  rw [if_pos h0]
  obtain ⟨h1, h2, h3, h4⟩ := shades_same (GS.mk s.L 1 s.G s.B s.pos) roots
  refine ⟨fun a ha => ?_, fun _ a ha x hx hin => ?_, fun hp => ?_, fun hp => ?_⟩
  · rcases ha with ha | ha
    · rcases shades_only ha with hg | ⟨x, hx, rfl, hin⟩
      · have hg : a ∈ s.G := hg
        rw [hi.gnil (by omega)] at hg
        cases hg
      · exact .inl (.root hx hin)
    · rw [h3] at ha
      have ha : a ∈ s.B := ha
      rw [hi.bnil h0] at ha
      cases ha
  · have h1 : ((GS.mk s.L 1 s.G s.B s.pos).shades roots).L = s.L := h1
    rw [h1] at hx hin
    rcases ha with ha | ha
    · exact .inl (.step ha hx hin)
    · cases ha
  · have hp : ((GS.mk s.L 1 s.G s.B s.pos).shades roots).ph = 2 := hp
    rw [h2] at hp
    cases hp
  · have hp : ((GS.mk s.L 1 s.G s.B s.pos).shades roots).ph = 0 := hp
    rw [h2] at hp
    cases hp
/-- Words are shaded whose objects are kept. -/
theorem FInv.shades {L0 : List Ob} {roots D : List Nat} {s : GS} (h : FInv L0 roots D s) (xs : List Nat) (hx : ∀ x ∈ xs, IsIn s.L (addrW x) → Aliv L0 roots D (addrW x)) : FInv L0 roots D (s.shades xs) := by
  obtain ⟨h1, h2, h3, h4⟩ := shades_same s xs
  refine ⟨fun a ha => ?_, fun hp => ?_, fun hp => ?_, fun hp => ?_⟩
  · rcases ha with ha | ha
    · rcases shades_only ha with hg | ⟨x, hxm, rfl, hin⟩
      · exact h.marked a (.inl hg)
      · exact hx x hxm hin
    · rw [h3] at ha
      exact h.marked a (.inr ha)
  · rw [h1]; rw [h2] at hp; exact h.fields hp
  · rw [h1, h4]; rw [h2] at hp; exact h.passed hp
  · rw [h1]; rw [h2] at hp; exact h.ended hp
theorem FInv.black {L0 : List Ob} {roots D : List Nat} {s : GS} (h : FInv L0 roots D s) {a : Nat} (ha : a ∈ s.G) : FInv L0 roots D (s.black a) := by
  refine ⟨fun b hb => ?_, h.fields, h.passed, h.ended⟩
  rcases hb with hb | hb
  · exact h.marked b (.inl (mem_without.1 hb).1)
  · have hb : b ∈ s.B ++ [a] := hb
    rcases List.mem_append.1 hb with hb | hb
    · exact h.marked b (.inr hb)
    · obtain rfl : b = a := by simpa using hb
      exact h.marked b (.inl ha)
theorem FInv.step {words : Nat} {L0 : List Ob} {roots D : List Nat} {s : GS} (h : FInv L0 roots D s) (hi : GInv words s) : FInv L0 roots D s.step.2 := by
  unfold GS.step
  by_cases h1 : s.ph = 1
  · rw [if_pos h1]
    by_cases hg : s.G = []
    · rw [if_pos hg]
      exact ⟨h.marked, fun hp => absurd (show (2 : Nat) = 1 from hp) (by decide), (fun _ a _ ha => absurd (show a < 0 from ha) (by omega)), fun hp => absurd (show (2 : Nat) = 0 from hp) (by decide)⟩
    · rw [if_neg hg]
      have hl := (least_spec hg).1
      exact (h.black hl).shades _ (h.fields h1 _ (h.marked _ (.inl hl)))
  · rw [if_neg h1]
    by_cases h2 : s.ph = 2
    · rw [if_pos h2]
      rcases next_facts hi.lies (Nat.le_refl _) s.pos with ⟨k1, k2⟩ | ⟨k1, k2, k3, k4⟩
      · rw [if_pos k1]
        exact ⟨h.marked, fun hp => absurd (show (0 : Nat) = 1 from hp) (by decide), fun hp => absurd (show (0 : Nat) = 2 from hp) (by decide), fun _ a ha => h.passed h2 a ha (k2 a ha)⟩
      · rw [if_neg k3]
        generalize nextOb s.L s.pos = b at *
        obtain ⟨d1, d2⟩ := drop_facts hi.lies k1
        have hn1 : (s.sweep b).ph ≠ 1 := h1
        have hn0 : (s.sweep b).ph ≠ 0 := by
          show s.ph ≠ 0
          omega
        refine ⟨fun a ha => ?_, fun hp => absurd hp hn1, fun _ a ha hap => ?_, fun hp => absurd hp hn0⟩
        · rcases ha with ha | ha
          · exact h.marked a (.inl ha)
          · exact h.marked a (.inr (mem_without.1 ha).1)
        · have ha : IsIn (if s.White b then dropOb s.L b else s.L) a := ha
          have hap : a < b + 1 := hap
          by_cases hab : a = b
          · subst hab
            split at ha
            · unfold IsIn at ha
              rw [d2, if_pos rfl] at ha
              cases ha
            · rename_i hw
              by_cases hg : a ∈ s.G
              · exact h.marked a (.inl hg)
              · by_cases hb : a ∈ s.B
                · exact h.marked a (.inr hb)
                · exact absurd ⟨ha, hg, hb⟩ hw
          · have ha : IsIn s.L a := by
              split at ha
              · unfold IsIn at ha
                rw [d2, if_neg hab] at ha
                exact ha
              · exact ha
            refine h.passed h2 a ha (Nat.lt_of_not_le fun hle => ?_)
            have := k4 a ha hle
            omega
    · rw [if_neg h2]; exact h
theorem one_word {words : Nat} {L : List Ob} (hl : Lies words 1 L) : ¬ IsIn L (addrW 1) := odd_no2 hl (by decide)
theorem FInv.laidIn {words : Nat} {L0 : List Ob} {roots D : List Nat} {s : GS} (h : FInv L0 roots D s) {L' : List Ob} {a kk nn : Nat} (hl : Lies words 1 L') (hf : ∀ c, findOb L' c = if c = a then some (newOb a kk nn) else findOb s.L c) : FInv L0 roots (D ++ [a]) (s.laid L' a) := by
  have hup : ∀ b, Aliv L0 roots D b → Aliv L0 roots (D ++ [a]) b := fun b hb => hb.imp id fun hx => List.mem_append.2 (.inl hx)
  have hself : Aliv L0 roots (D ++ [a]) a := .inr (by simp)
  have hdown : ∀ b, Aliv L0 roots (D ++ [a]) b → b ≠ a → Aliv L0 roots D b := fun b hb hne => by
    rcases hb with hb | hb
    · exact .inl hb
    · rcases List.mem_append.1 hb with hb | hb
      · exact .inr hb
      · exact absurd (by simpa using hb) hne
  have hin : ∀ b, IsIn L' b → b ≠ a → IsIn s.L b := fun b hb hne => by
    unfold IsIn at hb ⊢
    rw [hf, if_neg hne] at hb
    exact hb
  refine ⟨fun b hb => ?_, fun hp b hb x hx hxi => ?_, fun hp b hb hbp => ?_, fun hp b hb => ?_⟩
  · rcases hb with hb | hb
    · exact hup b (h.marked b (.inl hb))
    · have hb : b ∈ (if s.ph = 1 ∨ (s.ph = 2 ∧ s.pos ≤ a) then s.B ++ [a] else s.B) := hb
      split at hb
      · rcases List.mem_append.1 hb with hb | hb
        · exact hup b (h.marked b (.inr hb))
        · obtain rfl : b = a := by simpa using hb
          exact hself
      · exact hup b (h.marked b (.inr hb))
  · have hx : x ∈ kidsOf L' b := hx
    have hxi : IsIn L' (addrW x) := hxi
    have hp : s.ph = 1 := hp
    obtain ⟨o, ho, hk, hxo⟩ := kids_string hx
    rw [hf] at ho
    by_cases hba : b = a
    · rw [if_pos hba] at ho
      obtain rfl : newOb a kk nn = o := by simpa using ho
      have := List.eq_of_mem_replicate (show x ∈ List.replicate nn 1 from hxo)
      rw [this] at hxi
      exact absurd hxi (one_word hl)
    · rw [if_neg hba] at ho
      by_cases hxa : addrW x = a
      · rw [hxa]; exact hself
      · exact hup _ (h.fields hp b (hdown b hb hba) x (by rw [kids_of ho hk]; exact hxo) (hin _ hxi hxa))
  · have hb : IsIn L' b := hb
    by_cases hba : b = a
    · rw [hba]; exact hself
    · exact hup b (h.passed hp b (hin b hb hba) hbp)
  · have hb : IsIn L' b := hb
    by_cases hba : b = a
    · rw [hba]; exact hself
    · exact hup b (h.ended hp b (hin b hb hba))
theorem FInv.alloc {words : Nat} {L0 : List Ob} {roots D : List Nat} {s : GS} (h : FInv L0 roots D s) (hi : GInv words s) (k n : Int) : FInv L0 roots (laidBy words s k n D) (s.alloc words k n).2.2 := by
  unfold laidBy
  rcases alloc_facts k n hi.lies with ⟨e, he, ha⟩ | ⟨a, kk, nn, L', ha, _, _, _, _, hl, _, hf, _⟩
  · have hv : s.alloc words k n = (0, e, s) := by unfold GS.alloc; rw [ha, if_neg he]
    rw [hv, if_neg he]; exact h
  · have hv : s.alloc words k n = ((a : Int), 0, s.laid L' a) := by unfold GS.alloc; rw [ha, if_pos rfl]; rfl
    rw [hv, if_pos rfl]
    exact h.laidIn hl hf
theorem FInv.write {words : Nat} {L0 : List Ob} {roots D : List Nat} {s : GS} (h : FInv L0 roots D s) (hi : GInv words s) (a i : Int) (x : Nat) (hx : x % 2 = 1) (hv : ∀ n : Nat, (n : Int) = a → Aliv L0 roots D n) : FInv L0 roots D (s.write a i x).2 := by
  unfold GS.write
  by_cases he : (hGet s.L a i).2 = 0
  · rw [if_pos he]
    obtain ⟨n, j, o, rfl, rfl, ho, hj, hg, hs, hk⟩ := hGet_some he
    rw [hs, hg]
    have hvn := hv n rfl
    have hb : FInv L0 roots D (s.barrier (n : Int) (o.fs.getD j 0)) := by
      unfold GS.barrier; split
      · rename_i hp
        rw [hk] at hp
        refine h.shades [o.fs.getD j 0] fun y hy => ?_
        obtain rfl : y = o.fs.getD j 0 := by simpa using hy
        exact h.fields hp.1 n hvn _ (by rw [kids_of ho hp.2]; exact getD_mem hj)
      · exact h
    obtain ⟨b1, b2, b3, b4⟩ := barrier_same s (n : Int) (o.fs.getD j 0)
    generalize s.barrier (n : Int) (o.fs.getD j 0) = t at *
    have hfind := fun c => find_set s.L n j x c
    have hisin : ∀ c, IsIn (setOb s.L n j x) c ↔ IsIn s.L c := fun c => by
      unfold IsIn; rw [hfind]
      split
      · rename_i hc; subst hc; rw [ho]; simp
      · exact Iff.rfl
    refine ⟨hb.marked, fun hp c hc y hy hin => ?_, fun hp c hc => hb.passed hp c (by rw [b1]; exact (hisin c).1 hc), fun hp c hc => hb.ended hp c (by rw [b1]; exact (hisin c).1 hc)⟩
    have hin : IsIn (setOb s.L n j x) (addrW y) := hin
    have hin3 := (hisin _).1 hin
    clear hin
    have hy : y ∈ kidsOf (setOb s.L n j x) c := hy
    obtain ⟨o1, e1, hk1, hy1⟩ := kids_string hy
    rw [hfind] at e1
    have hp : t.ph = 1 := hp
    by_cases hcn : c = n
    · subst hcn
      rw [if_pos rfl, ho] at e1
      obtain rfl : o.put j x = o1 := by simpa using e1
      rcases mem_set_or2 (show y ∈ o.fs.set j x from hy1) with hy2 | rfl
      · exact hb.fields hp c hc y (by rw [b1, kids_of ho hk1]; exact hy2) (by rw [b1]; exact hin3)
      · exact absurd hin3 (odd_no2 hi.lies hx)
    · rw [if_neg hcn] at e1
      exact hb.fields hp c hc y (by rw [b1, kids_of e1 hk1]; exact hy1) (by rw [b1]; exact hin3)
  · rw [if_neg he]; exact h
theorem FInv.run {words : Nat} {L0 : List Ob} {roots D : List Nat} {s : GS} (h : FInv L0 roots D s) (hi : GInv words s) (k : Nat) : FInv L0 roots D (s.run k) := by
  induction k with
  | zero => exact h
  | succ k ih => exact ih.step (hi.run k)
open Go.RowKit
set_option maxHeartbeats 1000000 in
theorem lhas_any (A : Option Addr) (l : List Nat) (c : Nat) (a : Int) (w : World) (h : SeenInts w A l) (hn : l.length ≤ 9223372036854775807) :
    Calls Tryd.prog 43 #[.slice A l.length c, .int .i64 a] w (BoolSame (inB l a) w) := by
  have HS := Lib.hid h
  clear h
  go_enter Tryd.func43, Tryd.ntmps43
  go_wp2_with fail
  go_loop [8] (fun vi => ∃ i : Nat, i ≤ l.length ∧ vi = .int .i64 i ∧ Hid (∀ j, j < i → ((l.getD j 0 : Nat) : Int) ≠ a)) (fun vi => l.length - (intOf vi).toNat)
  case atStart => exact ⟨0, by omega, by go_num, Lib.hid (fun j hj => by omega)⟩
  case round =>
    obtain ⟨i, hi, rfl, HN⟩ := hrel
    by_cases hil : i < l.length
    · have g2 : decide ((i : Int) < (l.length : Int)) = true := decide_eq_true (by omega)
      have g2' : decide (i < l.length) = true := decide_eq_true hil
      obtain ⟨b, rfl, hbl, kb⟩ := HS.out i hil
      by_cases he : ((l.getD i 0 : Nat) : Int) = a
      · have B1 : (((l.getD i 0 : Nat) : Int) == a) = true := by rw [beq_iff_eq]; exact he
        have HV : Hid (inB l a = true) := Lib.hid (decide_eq_true ⟨_, getD_mem hil, he⟩)
        clear he
        generalize l.getD i 0 = x at *
        go_wp2_with fail
        go_ret
        exact ⟨ret_bool (by rw [HV.out]), rfl⟩
      · have B1 : (((l.getD i 0 : Nat) : Int) == a) = false := by rw [beq_eq_false_iff_ne]; exact he
        have HN1 : Hid (∀ j, j < i + 1 → ((l.getD j 0 : Nat) : Int) ≠ a) := Lib.hid (fun j hj => by
          by_cases hji : j = i
          · subst hji; exact he
          · exact HN.out j (by omega))
        clear he
        generalize l.getD i 0 = x at *
        go_wp2_with fail
        go_round
        case rel => exact ⟨i + 1, by omega, by go_num, HN1⟩
        case measure => simp [intOf]; omega
    · have g2 : decide ((i : Int) < (l.length : Int)) = false := decide_eq_false (by omega)
      have g2' : decide (i < l.length) = false := decide_eq_false hil
      have HV : Hid (inB l a = false) := Lib.hid (decide_eq_false (by
        rintro ⟨b, hb, he⟩
        obtain ⟨j, hj, hx⟩ := mem_getD hb
        exact HN.out j (by omega) (by rw [hx]; exact he)))
      go_wp2_with fail
      go_ret
      exact ⟨ret_bool (by rw [HV.out]), rfl⟩
theorem odd_word (x : Nat) (hx : x < 18446744073709551616) : ∃ y : Nat, y % 2 = 1 ∧ y < 18446744073709551616 ∧ bits BinOp.or IntKind.u64 (x : Int) 1 = (y : Int) := by
  refine ⟨x ||| 1, ?_, Nat.or_lt_two_pow (n := 64) hx (by decide), bits_or_u64_nat x 1 hx (by decide)⟩
  rw [Nat.or_mod_two_eq_one]
  exact .inr rfl
theorem nums_app (l m : List Nat) : nums .i64 l ++ nums .i64 m = nums .i64 (l ++ m) := by simp [nums]
theorem IntRow.at_ {w : World} {S : Nat → Prop} {A : Option Addr} {c : Nat} {l : List Nat} (h : IntRow w S (.slice A l.length c) l) : SeenInts w A l := by
  obtain ⟨A', c', he, hs⟩ := h.seen
  obtain ⟨rfl, _, rfl⟩ := Value.slice.inj he
  exact hs
theorem Grows.many {B : Nat} {w0 w w' : World} {v v' : Value} {l m : List Nat} (h : Grows B w0 w v l) (ho : w'.ownsRow 0 3 1 v' (l.length + m.length) (nums .i64 l ++ nums .i64 m)) (hg : w.grownBy w' v.ownBlock)
    (hat : v'.ownBlock = v.ownBlock ∨ v'.ownBlock = some w.heap.size) : Grows B w0 w' v' (l ++ m) := by
  obtain ⟨h1, h2, h3⟩ := h
  refine ⟨⟨?_, fun g hgv => ?_⟩, h2.grown hg h3 (fun g hg' => h1.2 g hg'), Nat.le_trans h3 hg.size⟩
  · rw [← nums_app, List.length_append]
    exact ho
  · rcases hat with hh | hh
    · exact h1.2 g (hh.symm.trans hgv)
    · rw [hh] at hgv
      have := Option.some.inj hgv
      show B ≤ g
      omega
theorem append_row {B : Nat} {w0 w : World} {ops : Array Oper} {rest : List Oper} {o : Oper} {a : Act} {Q : Exit → Act → World → Prop} (hgd : o.guard = none) (s x : Operand)
    (ho : o.op = .call { callee := .builtin .append, args := #[s, x], argTypes := #[61, 61] }) (v u : Value) (l1 l2 : List Nat) (hs : a.eval s = v) (hx : a.eval x = u) (hg : Grows B w0 w v l1) (hu : ∃ S, IntRow w S u l2)
    (hn : l1.length + l2.length ≤ 1000000) (h : ∀ v' w', Grows B w0 w' v' (l1 ++ l2) → wpList Tryd.prog ops Q rest (a.put o.dst v') w') : wpList Tryd.prog ops Q (o :: rest) a w := by
  obtain ⟨i0, hi0, hz0, hz1, hz2⟩ := info_parts infoInt
  obtain ⟨S, hu1, hu2⟩ := hu
  have hll : (nums IntKind.i64 l2).length = l2.length := by simp [nums]
  have hone : ∀ z ∈ nums IntKind.i64 l2, z.oneCell' = true := fun z hz => by
    simp only [nums, List.mem_map] at hz
    obtain ⟨y, _, rfl⟩ := hz
    rfl
  rcases hu1.2 with ⟨h1, h2⟩ | ⟨g, k, cs, h1, _⟩
  · subst h1
    have hl0 : l2 = [] := List.length_eq_zero_iff.1 h2
    subst hl0
    refine wpList_append_own_none hgd s x 61 ho 0 3 i0 1 Tryd.underlying61 hi0 v _ _ hs hg.1.1 hx ?_
    have := h v w (by rw [List.append_nil]; exact hg)
    exact this
  · subst h1
    refine wpList_append_own_at w hgd s x 61 ho 0 3 i0 _ 1 8 Tryd.underlying61 hi0 hz0 hz1 hz2 rfl (by decide) v _ _ hs hg.1.1 ⟨g, 0, none⟩ l2.length k (nums .i64 l2) hx (by rw [hll]; omega) (hu1.cells (g := g) rfl) hone (by unfold maxLen; omega) (by omega) (Nat.zero_le _) ?_
    intro v' w' h3 h4 _ h6
    exact h v' w' (hg.many h3 h4 h6)
theorem CState.start {F : Nat → Prop} {g q m : Nat} {w w6 : World} {t : GS} (h : GGo F g q m t w w6) (hF : ∀ b, F b → b < w.heap.size) : CState F g q m w (w6.alloc (.cells #[] 3)) (.slice (some ⟨w6.heap.size, 0, none⟩) 0 0) [] t := by
  refine ⟨h.1.more (below_one _) (fun b hb => hb.imp id fun he => by
    have := Option.some.inj he
    have : w6.heap.size = b := this
    simp; omega), ⟨⟨rfl, .inr ⟨w6.heap.size, 0, #[], rfl, Nat.zero_le _, heap_alloc_new w6 _, Nat.le_refl _, by unfold maxLen; decide, rfl, rfl⟩⟩, fun g hg => by
      have := Option.some.inj hg
      have : w6.heap.size = g := this
      have := h.2.size
      show w.heap.size ≤ g
      omega⟩, h.2.trans (Turned.of_below (below_one _)), by have := h.2.size; simp; omega, hF⟩
set_option maxHeartbeats 1000000 in
set_option maxRecDepth 100000 in
theorem frees_great (words : Int) (A1 A2 A3 : Option Addr) (n1 c1 n2 c2 n3 c3 : Nat) (w : World) (hT : Tab w) (h : 2048 < words ∨ 1000 < n2) :
    Calls Tryd.prog 7 #[.int .i64 words, .slice A1 n1 c1, .slice A2 n2 c2, .slice A3 n3 c3] w (YesMade true w) := by
  have HT := Lib.hid hT
  clear hT
  have HG : Hid (decide (2048 < words) = true ∨ (decide (2048 < words) = false ∧ decide (1000 < n2) = true ∧ decide (1000 < (n2 : Int)) = true)) := by
    refine Lib.hid ?_
    by_cases h1 : 2048 < words
    · exact .inl (decide_eq_true h1)
    · exact .inr ⟨decide_eq_false h1, decide_eq_true (by omega), decide_eq_true (by omega)⟩
  clear h
  rcases HG.out with g1 | ⟨g1, g2, g3⟩
  all_goals
    clear HG
    go_enter Tryd.func7, Tryd.ntmps7
    go_wp2_with fail
    refine (awake3_any _ HT.out).mono ?_
    rintro e w1 ⟨rfl, hb⟩
    have HB := Lib.hid hb
    clear hb
    go_wp2_with fail
    go_ret
    exact ⟨rfl, HB.out⟩
set_option maxRecDepth 100000 in
theorem frees_nil (words : Int) (A1 A2 A3 : Option Addr) (n1 c1 n2 c2 n3 c3 : Nat) (w : World) (hT : Tab w) (h : words < 2) (h2 : n2 ≤ 1000) :
    Calls Tryd.prog 7 #[.int .i64 words, .slice A1 n1 c1, .slice A2 n2 c2, .slice A3 n3 c3] w (YesMade true w) := by
  have HT := Lib.hid hT
  clear hT
  have g1 : decide (2048 < words) = false := decide_eq_false (by omega)
  have g2 : decide (1000 < n2) = false := decide_eq_false (by omega)
  have g3 : decide (1000 < (n2 : Int)) = false := decide_eq_false (by omega)
  go_enter Tryd.func7, Tryd.ntmps7
  go_wp2_with fail
  refine (awake3_any _ HT.out).mono ?_
  rintro e w1 ⟨rfl, hb⟩
  have HB := Lib.hid hb
  clear hb
  go_wp2_with fail
  refine (both_nil words A1 n1 c1 _ (.inl h)).mono ?_
  rintro e w' ⟨rfl, rfl⟩
  go_wp2_with fail
  go_ret
  exact ⟨rfl, HB.out⟩
def upTo (m : Nat) (vi : Value) : Nat := if (intOf vi).toNat = 0 then 0 else m + 1 - (intOf vi).toNat
theorem upTo_lt {m a b : Nat} (ha : a ≠ 0) (ham : a < m) (h : b = 0 ∨ a + 1 ≤ b) : upTo m (.int .i64 (b : Int)) < upTo m (.int .i64 (a : Int)) := by
  have e : ∀ x : Nat, upTo m (.int .i64 (x : Int)) = if x = 0 then 0 else m + 1 - x := fun x => by
    show (if (x : Int).toNat = 0 then 0 else m + 1 - (x : Int).toNat) = _
    rw [Int.toNat_natCast]
  rw [e, e, if_neg ha]
  rcases h with h | h
  · rw [if_pos h]; omega
  · rw [if_neg (by omega)]; omega
set_option maxHeartbeats 8000000 in
set_option maxRecDepth 100000 in
theorem frees_walk (m : Nat) (A1 A2 A3 : Option Addr) (n1 c1 n2 c2 n3 c3 : Nat) (rs : List Nat) (w : World) (hT : Tab w) (h : 2 ≤ m ∧ m ≤ 2048) (h2 : n2 ≤ 1000)
    (hS1 : Script3 w (fun b => b < w.heap.size) A1 n1) (hn1 : n1 ≤ 9223372036854775807) (hR : WordsAt w (fun b => b < w.heap.size) A2 n2 rs) (hS3 : Script3 w (fun b => b < w.heap.size) A3 n3) (hn3 : n3 ≤ 9223372036854775807) :
    Calls Tryd.prog 7 #[.int .i64 (m : Int), .slice A1 n1 c1, .slice A2 n2 c2, .slice A3 n3 c3] w (YesMade true w) := by
  obtain ⟨i0, hi0, hz0, hz1, hz2⟩ := info_parts infoInt
  have HT := Lib.hid hT
  have HS1 := Lib.hid hS1
  have HS3 := Lib.hid hS3
  have HR := Lib.hid hR
  have g1 : decide (2048 < (m : Int)) = false := decide_eq_false (by omega)
  have g2 : decide (1000 < n2) = false := decide_eq_false (by omega)
  have g3 : decide (1000 < (n2 : Int)) = false := decide_eq_false (by omega)
  clear hT hS1 hS3 hR
  go_enter Tryd.func7, Tryd.ntmps7
  go_wp2_with fail
  refine (awake3_any _ HT.out).mono ?_
  rintro e w1 ⟨rfl, hb⟩
  have HB := Lib.hid hb
  clear hb
  go_wp2_with fail
  refine (both_any m A1 n1 c1 w1 ⟨h.1, by omega⟩ (HS1.out.below HB.out) hn1).mono ?_
  rintro e w2 ⟨q, r, rfl, hm2⟩
  have HM := Lib.hid (mid_back HB.out hm2)
  clear hm2 HB
  obtain ⟨L, ⟨S, T, t1, t2, t3, t4, t5, t6, t7⟩, hb2⟩ := HM.out
  have HB2 := Lib.hid hb2
  have HH := Lib.hid t1.bound
  have HS4 := Lib.hid t4
  have HCL := Lib.hid (closure_any r T m L A2 n2 c2 rs (fun b => b < w.heap.size) w2 t2 t1.lies (by omega) (HR.out.lift hb2 (fun b hb => hb)) h2 t1.vals)
  clear t1 t2 t3 t4 t5 t6 t7 hb2 HM
  go_wp2_with fail
  refine HCL.out.mono ?_
  rintro e w3 ⟨vh, held, rfl, hgr, hnd, hhl, hmem⟩
  have HHD := Lib.hid hgr
  have HME := Lib.hid hmem
  clear hgr hnd hmem HCL
  have HAH : Hid (Ahead q m w w3 L vh held vh held) := Lib.hid (by
    have hz2 := HB2.out.size
    have hap : ∀ b, (S b ∧ b < w2.heap.size) → vh.ownBlock ≠ some b := fun b hS he => by
      have : w2.heap.size ≤ b := HHD.out.1.2 b he
      have := hS.2; omega
    have hrow : IntRow w3 (From w.heap.size) vh held := ⟨HHD.out.1.1, fun b hb => Nat.le_trans hz2 (HHD.out.1.2 b hb)⟩
    exact ⟨⟨_, HH.out.below HHD.out.2.1, fun b hS => HS4.out b hS.1, hap, hap⟩, HB2.out.trans (HHD.out.2.1.mono hz2), hrow, hrow⟩)
  have HNW := Lib.hid (HAH.out.new (by omega))
  clear HHD HH HS4 HB2
  obtain ⟨Ah, ch, rfl, hsn⟩ := HAH.out.held.seen
  clear hsn
  go_wp2_with fail
  refine HNW.out.mono ?_
  rintro e w5 ⟨g, rfl, h5, hb5⟩
  have HB5 : Hid (Below w.heap.size w w5) := Lib.hid (HAH.out.below.trans (hb5.mono HAH.out.below.size))
  have HR1 : Hid (IntRow w5 (From w.heap.size) (.slice Ah held.length ch) held) := Lib.hid (HAH.out.held.keep2 fun b _ hl => hb5.block b hl)
  have HFL : Hid (∀ b, FAhead w (.slice Ah held.length ch) (.slice Ah held.length ch) b → b < w5.heap.size) := Lib.hid (by obtain ⟨U, _, _, _, u4⟩ := h5; exact u4)
  have HFT : Hid (FAhead w (.slice Ah held.length ch) (.slice Ah held.length ch) 0) := Lib.hid (.inl HT.out.lt)
  have HFH : Hid (∀ b, (Value.slice Ah held.length ch).ownBlock = some b → FAhead w (.slice Ah held.length ch) (.slice Ah held.length ch) b) := Lib.hid (fun b hb => .inr (.inl hb))
  have HFB : Hid (∀ b, b < w.heap.size → FAhead w (.slice Ah held.length ch) (.slice Ah held.length ch) b) := Lib.hid (fun b hb => .inl hb)
  generalize hFd : FAhead w (.slice Ah held.length ch) (.slice Ah held.length ch) = F at *
  clear hFd
  have HT5 : Hid (Tab w5) := Lib.hid (HT.out.below HB5.out HT.out.lt)
  have HS : Hid (Script3 w5 F A3 n3) := Lib.hid (HS3.out.lift HB5.out HFB.out)
  have HBG := Lib.hid (v_Begin F g q m _ w5 h5 A2 n2 c2 rs (HR.out.lift HB5.out HFB.out) (by omega))
  have HF0 := Lib.hid (FInv.begin h5.inv rs rfl)
  clear h5 hb5 HAH HNW
  go_wp2_with fail
  refine HBG.out.mono ?_
  rintro e w6 ⟨rfl, h6⟩
  have HC : Hid (∃ t, CState F g q m w5 (w6.alloc (.cells #[] 3)) (.slice (some ⟨w6.heap.size, 0, none⟩) 0 0) [] t ∧ FInv L rs [] t) := Lib.hid ⟨_, CState.start h6 HFL.out, HF0.out⟩
  clear h6 HBG HF0
  go_wp2_with fail
  go_loopw [14, 13] (fun vi vv wr => ∃ (i : Nat) (v : Value) (D : List Nat), i ≤ n3 ∧ i ≤ 200 ∧ D.length ≤ i ∧ vi = .int .i64 i ∧ v = vv ∧ Hid (∃ t, CState F g q m w5 wr v D t ∧ FInv L rs D t)) (fun vi _ _ => n3 - (intOf vi).toNat)
  case atStart => exact ⟨0, _, [], by omega, by omega, by simp, by go_num, rfl, HC⟩
  case round =>
    obtain ⟨i, vv, D, hin, hi4, hDl, rfl, rfl, HI⟩ := hrel
    clear HC
    obtain ⟨t, hcs, hki⟩ := HI.out
    have HCS := Lib.hid hcs
    have HKI := Lib.hid hki
    clear hcs hki HI
    have hcase : (i < n3 ∧ i < 200) ∨ n3 ≤ i ∨ (i < n3 ∧ 200 ≤ i) := by omega
    rcases hcase with ⟨hi1, hi2⟩ | hc
    · have g4 : decide ((i : Int) < (n3 : Int)) = true := decide_eq_true (by omega)
      have g5 : decide ((i : Int) < 200) = true := decide_eq_true (by omega)
      obtain ⟨st, b, off, rfl, hbl, hbF, e0, e1, e2, e3, e4, hsx, _⟩ := HS.out i hi1
      have hst := HCS.out.2.2.1
      have k0 := (hst.cell (p := ⟨b, off + i * 5, none⟩) hbF hbl).trans e0
      have k1 := (hst.cell (p := ⟨b, off + i * 5 + 1, none⟩) hbF hbl).trans e1
      have k2 := (hst.cell (p := ⟨b, off + i * 5 + 2, none⟩) hbF hbl).trans e2
      have k3 := (hst.cell (p := ⟨b, off + i * 5 + 3, none⟩) hbF hbl).trans e3
      have hbr : b < wr.heap.size := Nat.lt_of_lt_of_le hbl HCS.out.2.2.2.1
      have g6 : (0 : Int) ≤ (i : Int) := by omega
      have g7 : (i : Int) < (n3 : Int) := by omega
      clear hst e0 e1 e2 e3 e4
      by_cases hk : st.k = 0
      · have B0 : (st.k == 0) = true := by simp [hk]
        clear hk
        have hka := HKI.out.alloc HCS.out.1.inv st.a st.b
        obtain ⟨ad, hadn⟩ : ∃ ad : Nat, (t.alloc m st.a st.b).1 = (ad : Int) := by
          rcases alloc_facts st.a st.b HCS.out.1.inv.lies with ⟨e, he, ha⟩ | ⟨a, kk, nn, L', ha, _⟩
          · exact ⟨0, by unfold GS.alloc; rw [ha, if_neg he]; rfl⟩
          · exact ⟨a, by unfold GS.alloc; rw [ha, if_pos rfl]⟩
        have HKA : Hid (FInv L rs (if (t.alloc m st.a st.b).2.1 = 0 then D ++ [ad] else D) (t.alloc m st.a st.b).2.2) := Lib.hid (by
          unfold laidBy at hka
          rw [hadn, Int.toNat_natCast] at hka
          exact hka)
        have HAL := Lib.hid (fun (W : World) (hW : GIn (Owns F vv) W g q m t) => by
          have := v_Alloc (Owns F vv) g q m t W hW st.a st.b
          rw [hadn] at this
          exact this)
        clear hka hadn
        generalize t.alloc m st.a st.b = z at *
        obtain ⟨z1, z2, z3⟩ := z
        simp only at *
        go_upto_region 19 with fail
        have g8 : IntKind.i64.wrap (i : Int) = (i : Int) := by rw [IntKind.wrap_i64]; omega
        go_region_held3 (fun W => W.cell? ⟨b, off + i * 5 + 1, none⟩ = some (.int .i64 st.a) ∧ W.cell? ⟨b, off + i * 5 + 2, none⟩ = some (.int .i64 st.b)) (go_keep) ((go_at_call 25; refine (HAL.out _ ?_).mono ?_; exact HCS.out.1.drew; rintro e w7 ⟨rfl, hs5⟩; have H5 := Lib.hid hs5; clear hs5; have j1 := (H5.out.2.cell (p := ⟨b, off + i * 5 + 1, none⟩) (.inl hbF) hbr).trans k1; have j2 := (H5.out.2.cell (p := ⟨b, off + i * 5 + 2, none⟩) (.inl hbF) hbr).trans k2))
        have HC5 : Hid (CState F g q m w5 w7 vv D z3) := Lib.hid (HCS.out.drew.go H5.out)
        clear g8 H5 k0 k1 k2 k3
        by_cases hz : z2 = 0
        · subst hz
          rw [if_pos rfl] at HKA
          have hDl2 : D.length ≤ 200 := by omega
          have hown : Hid ((w7.alloc (.cells #[.int .i64 (ad : Int)] 3)).ownsRow 0 3 1 vv D.length (nums .i64 D)) := Lib.hid (HC5.out.2.1.1.alloc _)
          have hsrc := Lib.hid (one_src w7 ad)
          have hone := Lib.hid (one_cell ad)
          go_wp2_with (at_builtin; refine wpList_append_own_at _ rfl (.tmp 84) (.tmp 86) 61 rfl 0 3 i0 _ 1 8 Tryd.underlying61 hi0 hz0 hz1 hz2 rfl (by decide) _ _ _ rfl hown.out ⟨w7.heap.size, 0, none⟩ 1 1 [.int .i64 (ad : Int)] rfl rfl hsrc.out hone.out (by unfold maxLen; omega) (by omega) (Nat.zero_le _) ?_)
          intro v1 w8 hown1 hgr1 hnn1 hat1
          have HN : Hid (∃ t, CState F g q m w5 w8 v1 (D ++ [ad]) t ∧ FInv L rs (D ++ [ad]) t) := Lib.hid ⟨_, HC5.out.push hown1 hgr1 (by simpa using hat1), HKA.out⟩
          clear hown1 hgr1 hnn1 hat1 hown hsrc hone
          go_wp2_with fail
          go_roundw
          case rel => exact ⟨i + 1, _, _, by omega, by omega, by simp; omega, by go_num, rfl, HN⟩
          case measure => simp [intOf]; omega
        · rw [if_neg hz] at HKA
          have B1 : (z2 == 0) = false := by rw [beq_eq_false_iff_ne]; exact hz
          have HN : Hid (∃ t, CState F g q m w5 w7 vv D t ∧ FInv L rs D t) := Lib.hid ⟨_, HC5.out, HKA.out⟩
          clear hz
          go_wp2_with fail
          go_roundw
          case rel => exact ⟨i + 1, _, D, by omega, by omega, by omega, by go_num, rfl, HN⟩
          case measure => simp [intOf]; omega
      · have B0 : (st.k == 0) = false := by simp [hk]
        by_cases hk1 : st.k = 1
        · have B1 : (st.k == 1) = true := by simp [hk1]
          clear hk hk1
          obtain ⟨Ad, cd, rfl, hsd⟩ := HCS.out.2.1.seen
          have HH1 := Lib.hid (lhas_any Ah held ch st.a wr (HR1.out.keep2 fun b hb hl => HCS.out.2.2.1.block b hl fun hn => hn (HFH.out b hb)).at_ (by omega))
          have HH2 := Lib.hid (lhas_any Ad D cd st.a wr hsd (by omega))
          have HN0 : Hid (∃ t, CState F g q m w5 wr (.slice Ad D.length cd) D t ∧ FInv L rs D t) := Lib.hid ⟨t, HCS.out, HKI.out⟩
          clear hsd
          obtain ⟨y, hy1, hy2, E1⟩ := odd_word st.x hsx
          have HNW : Hid ((inB held st.a = true ∨ inB D st.a = true) → ∀ w7, GGo (Owns F (.slice Ad D.length cd)) g q m (t.write st.a st.b y).2 wr.drew w7 → ∃ t, CState F g q m w5 w7 (.slice Ad D.length cd) D t ∧ FInv L rs D t) := Lib.hid (fun hh w7 h7 => ⟨_, HCS.out.drew.go h7, HKI.out.write HCS.out.1.inv st.a st.b y hy1 fun n hn => by
            rcases hh with hh | hh
            · obtain ⟨b', hb', he'⟩ := of_decide_eq_true hh
              rw [show n = b' by omega]
              exact .inl ((HME.out b').1 hb')
            · obtain ⟨b', hb', he'⟩ := of_decide_eq_true hh
              rw [show n = b' by omega]
              exact .inr hb'⟩)
          clear hy1
          have hg8 : IntKind.i64.wrap (i : Int) = (i : Int) := by rw [IntKind.wrap_i64]; omega
          have HG8 := Lib.hid hg8
          clear hg8
          by_cases hb1 : inB held st.a = true
          · have HW := Lib.hid (HNW.out (.inl hb1))
            rw [hb1] at HH1
            clear hb1 HH2 HNW
            go_wp2_with fail
            refine HH1.out.mono ?_
            rintro e w' ⟨rfl, rfl⟩
            go_upto_region 24 with fail
            have g8 := HG8.out
            go_region_held3 (fun W => W.cell? ⟨b, off + i * 5 + 1, none⟩ = some (.int .i64 st.a) ∧ W.cell? ⟨b, off + i * 5 + 2, none⟩ = some (.int .i64 st.b) ∧ W.cell? ⟨b, off + i * 5 + 3, none⟩ = some (.int .u64 (st.x : Int))) (go_keep) ((go_at_call 27; refine (v_Write (Owns F (.slice Ad D.length cd)) g q m t _ ?_ st.a st.b y hy2).mono ?_; exact HCS.out.1.drew; rintro e w7 ⟨rfl, hs5⟩; have H5 := Lib.hid hs5; clear hs5; have j1 := (H5.out.2.cell (p := ⟨b, off + i * 5 + 1, none⟩) (.inl hbF) hbr).trans k1; have j2 := (H5.out.2.cell (p := ⟨b, off + i * 5 + 2, none⟩) (.inl hbF) hbr).trans k2; have j3 := (H5.out.2.cell (p := ⟨b, off + i * 5 + 3, none⟩) (.inl hbF) hbr).trans k3))
            have HN : Hid (∃ t, CState F g q m w5 w7 (.slice Ad D.length cd) D t ∧ FInv L rs D t) := Lib.hid (HW.out w7 H5.out)
            clear g8 H5 k0 k1 k2 k3
            go_wp2_with fail
            go_roundw
            case rel => exact ⟨i + 1, _, D, by omega, by omega, by omega, by go_num, rfl, HN⟩
            case measure => simp [intOf]; omega
          · have hb1 : inB held st.a = false := by simpa using hb1
            rw [hb1] at HH1
            by_cases hb2 : inB D st.a = true
            · have HW := Lib.hid (HNW.out (.inr hb2))
              rw [hb2] at HH2
              clear hb1 hb2 HNW
              go_wp2_with fail
              refine HH1.out.mono ?_
              rintro e w' ⟨rfl, rfl⟩
              go_wp2_with fail
              refine HH2.out.mono ?_
              rintro e w' ⟨rfl, rfl⟩
              go_upto_region 24 with fail
              have g8 := HG8.out
              go_region_held3 (fun W => W.cell? ⟨b, off + i * 5 + 1, none⟩ = some (.int .i64 st.a) ∧ W.cell? ⟨b, off + i * 5 + 2, none⟩ = some (.int .i64 st.b) ∧ W.cell? ⟨b, off + i * 5 + 3, none⟩ = some (.int .u64 (st.x : Int))) (go_keep) ((go_at_call 27; refine (v_Write (Owns F (.slice Ad D.length cd)) g q m t _ ?_ st.a st.b y hy2).mono ?_; exact HCS.out.1.drew; rintro e w7 ⟨rfl, hs5⟩; have H5 := Lib.hid hs5; clear hs5; have j1 := (H5.out.2.cell (p := ⟨b, off + i * 5 + 1, none⟩) (.inl hbF) hbr).trans k1; have j2 := (H5.out.2.cell (p := ⟨b, off + i * 5 + 2, none⟩) (.inl hbF) hbr).trans k2; have j3 := (H5.out.2.cell (p := ⟨b, off + i * 5 + 3, none⟩) (.inl hbF) hbr).trans k3))
              have HN : Hid (∃ t, CState F g q m w5 w7 (.slice Ad D.length cd) D t ∧ FInv L rs D t) := Lib.hid (HW.out w7 H5.out)
              clear g8 H5 k0 k1 k2 k3
              go_wp2_with fail
              go_roundw
              case rel => exact ⟨i + 1, _, D, by omega, by omega, by omega, by go_num, rfl, HN⟩
              case measure => simp [intOf]; omega
            · have hb2 : inB D st.a = false := by simpa using hb2
              rw [hb2] at HH2
              clear hb1 hb2 HNW
              go_wp2_with fail
              refine HH1.out.mono ?_
              rintro e w' ⟨rfl, rfl⟩
              go_wp2_with fail
              refine HH2.out.mono ?_
              rintro e w' ⟨rfl, rfl⟩
              go_wp2_with fail
              go_roundw
              case rel => exact ⟨i + 1, _, D, by omega, by omega, by omega, by go_num, rfl, HN0⟩
              case measure => simp [intOf]; omega
        · have B1 : (st.k == 1) = false := by simp [hk1]
          clear hk hk1
          have HPH := Lib.hid (v_Phase _ g q m t _ HCS.out.1)
          by_cases hp : t.ph = 0
          · rw [hp] at HPH
            have HN : Hid (∃ t, CState F g q m w5 wr vv D t ∧ FInv L rs D t) := Lib.hid ⟨t, HCS.out, HKI.out⟩
            clear hp
            go_wp2_with fail
            refine HPH.out.mono ?_
            rintro e w' ⟨rfl, rfl⟩
            go_wp2_with fail
            go_roundw
            case rel => exact ⟨i + 1, _, D, by omega, by omega, by omega, by go_num, rfl, HN⟩
            case measure => simp [intOf]; omega
          · have B2 : ((t.ph : Int) != 0) = true := by rw [bne_iff_ne]; omega
            have HST := Lib.hid (v_Step _ g q m t _ HCS.out.1 (HCS.out.tab HT5.out HFT.out))
            clear hp
            generalize t.ph = p at *
            go_wp2_with fail
            refine HPH.out.mono ?_
            rintro e w' ⟨rfl, rfl⟩
            go_wp2_with fail
            refine HST.out.mono ?_
            rintro e w7 ⟨rfl, hs5⟩
            have HN : Hid (∃ t, CState F g q m w5 w7 vv D t ∧ FInv L rs D t) := Lib.hid ⟨_, HCS.out.go hs5, HKI.out.step HCS.out.1.inv⟩
            clear hs5
            go_wp2_with fail
            go_roundw
            case rel => exact ⟨i + 1, _, D, by omega, by omega, by omega, by go_num, rfl, HN⟩
            case measure => simp [intOf]; omega
    · have HFI := Lib.hid (v_Finish _ g q m t _ HCS.out.1 (HCS.out.tab HT5.out HFT.out) (.inl HFT.out))
      have hgs : (n3 ≤ i ∧ decide ((i : Int) < (n3 : Int)) = false) ∨ (i < n3 ∧ 200 ≤ i ∧ decide ((i : Int) < (n3 : Int)) = true ∧ decide ((i : Int) < 200) = false) := by
        rcases hc with hc | ⟨hc, hc4⟩
        · exact .inl ⟨hc, decide_eq_false (by omega)⟩
        · exact .inr ⟨hc, hc4, decide_eq_true (by omega), decide_eq_false (by omega)⟩
      have HEND : Hid (∀ K w7, EndsAt t K → GGo (Owns F vv) g q m (t.run K) wr w7 → ∃ t, CState F g q m w5 w7 vv D t ∧ FInv L rs D t ∧ t.ph = 0) := Lib.hid (fun K w7 hK h7 => ⟨_, HCS.out.go h7, HKI.out.run HCS.out.1.inv K, hK.1⟩)
      clear hc HCS HKI
      have hDl2 : D.length ≤ 200 := by omega
      rcases hgs with ⟨hc, g4⟩ | ⟨hc, hc4, g4, g5⟩
      all_goals
        go_wp2_with fail
        refine HFI.out.mono ?_
        rintro e w7 ⟨K, rfl, hK, h7⟩
        obtain ⟨t7, hc7, hf7, hp7⟩ := HEND.out K w7 hK h7
        have HC7 := Lib.hid hc7
        have HF7 := Lib.hid (hf7.ended hp7)
        clear hK h7 HEND hf7 hp7 hc7 HFI
        have HH7 : Hid (IntRow w7 (From w.heap.size) (.slice Ah held.length ch) held) := Lib.hid (HR1.out.keep2 fun b hb hl => HC7.out.2.2.1.block b hl fun hn => hn (HFH.out b hb))
        have HG0 : Hid (Grows w7.heap.size w7 (w7.alloc (.cells #[] 3)) (.slice (some ⟨w7.heap.size, 0, none⟩) 0 0) []) := Lib.hid ⟨⟨⟨rfl, .inr ⟨w7.heap.size, 0, #[], rfl, Nat.zero_le _, heap_alloc_new w7 _, Nat.le_refl _, by unfold maxLen; decide, rfl, rfl⟩⟩, fun g hg => by have := Option.some.inj hg; exact Nat.le_of_eq this⟩, below_one _, by simp⟩
        go_wp2_with (at_builtin; refine append_row rfl (.tmp 126) (.tmp 127) rfl _ _ [] held rfl rfl HG0.out ⟨_, HH7.out.keep2 fun b _ hl => HG0.out.2.1.block b hl⟩ (by simp; omega) ?_)
        intro v8 w8 hg8
        have HG8 : Hid (Grows w7.heap.size w7 w8 v8 held) := Lib.hid hg8
        clear hg8 HG0
        go_wp2_with (at_builtin; refine append_row rfl (.tmp 128) (.tmp 129) rfl _ _ held D rfl rfl HG8.out ⟨_, HC7.out.2.1.keep2 fun b _ hl => HG8.out.2.1.block b hl⟩ (by omega) ?_)
        intro v9 w9 hg9
        have hall : (held ++ D).length ≤ 9223372036854775807 := by simp; omega
        have hmm : ∀ a, IsIn t7.L a → inB (held ++ D) (a : Int) = true := fun a ha => by
          rw [inB_nat, decide_eq_true_iff, List.mem_append]
          exact (HF7.out a ha).imp (HME.out a).2 id
        generalize held ++ D = al at *
        obtain ⟨Aa, ca, rfl, hsa⟩ := hg9.1.seen
        have HSA := Lib.hid (fun a => lhas_any Aa al ca a w9 hsa hall)
        have HMM := Lib.hid hmm
        have HGI : Hid (GIn (Owns F vv) w9 g q m t7) := Lib.hid (HC7.out.1.below hg9.2.1)
        have HT9 : Hid (Tab w9) := Lib.hid ((HC7.out.tab HT5.out HFT.out).below hg9.2.1 (HC7.out.tab HT5.out HFT.out).lt)
        have HB9 : Hid (Below w.heap.size w w9) := Lib.hid ((HB5.out.trans (HC7.out.2.2.1.below HFB.out HB5.out.size)).trans (hg9.2.1.mono (Nat.le_trans HB5.out.size HC7.out.2.2.1.size)))
        clear hg9 hsa hmm hall HG8 HH7 HC7 HF7
        have HX := Lib.hid (fun a ha => v_Next _ g q m t7 _ HGI.out a HT9.out ha)
        have HX0 := Lib.hid (HX.out 0 (by omega))
        go_wp2_with fail
        refine HX0.out.mono ?_
        rintro e w' ⟨rfl, rfl⟩
        have HNF := Lib.hid (next_facts HGI.out.inv.lies (Nat.le_refl _))
        have hst : nextOb t7.L (0 : Int).toNat = 0 ∨ IsIn t7.L (nextOb t7.L (0 : Int).toNat) := (HNF.out _).imp (fun h => h.1) (fun h => h.1)
        generalize nextOb t7.L (0 : Int).toNat = a0 at *
        have HA0 := Lib.hid hst
        clear hst HX0
        go_wp2_with fail
        go_loop [18] (fun vi => ∃ a : Nat, vi = .int .i64 a ∧ Hid (a = 0 ∨ IsIn t7.L a)) (fun vi => upTo m vi)
        case atStart => exact ⟨a0, by go_num, HA0⟩
        case round =>
          obtain ⟨a, rfl, HA⟩ := hrel
          by_cases ha0 : a = 0
          · subst ha0
            go_wp2_with fail
            go_ret
            exact ⟨rfl, HB9.out⟩
          · have hin1 : IsIn t7.L a := HA.out.resolve_left ha0
            have B3 : ((a : Int) != 0) = true := by rw [bne_iff_ne]; omega
            have hrg := isIn_range HGI.out.inv.lies hin1
            have HSV := Lib.hid (HSA.out (a : Int))
            rw [HMM.out a hin1] at HSV
            have HXN := Lib.hid (HX.out ((a : Int) + 1) (by omega))
            have hnf := HNF.out (a + 1)
            rw [show ((a : Int) + 1).toNat = a + 1 by omega] at HXN
            have hn2 : nextOb t7.L (a + 1) = 0 ∨ (IsIn t7.L (nextOb t7.L (a + 1)) ∧ a + 1 ≤ nextOb t7.L (a + 1)) := hnf.imp (fun h => h.1) (fun h => ⟨h.1, h.2.1⟩)
            clear hnf hin1
            generalize nextOb t7.L (a + 1) = a1 at *
            have HN2 : Hid (a1 = 0 ∨ IsIn t7.L a1) := Lib.hid (hn2.imp id (fun h => h.1))
            have hms := Lib.hid (upTo_lt (m := m) ha0 hrg.2 (hn2.imp id (fun h => h.2)))
            clear hn2 ha0
            go_wp2_with fail
            refine HSV.out.mono ?_
            rintro e w' ⟨rfl, rfl⟩
            go_wp2_with fail
            refine HXN.out.mono ?_
            rintro e w' ⟨rfl, rfl⟩
            go_wp2_with fail
            go_round
            case rel => exact ⟨a1, by go_num, HN2⟩
            case measure => exact hms.out
theorem law_Frees (words : Int) (A1 : Option Addr) (n1 c1 : Nat) (A2 : Option Addr) (n2 c2 : Nat) (A3 : Option Addr) (n3 c3 : Nat) (rs : List Nat) (w : World) (hT : Tab w) (_hw : -9223372036854775808 ≤ words ∧ words ≤ 9223372036854775807)
    (hS1 : Script3 w (fun b => b < w.heap.size) A1 n1) (hn1 : n1 ≤ 9223372036854775807) (hR : WordsAt w (fun b => b < w.heap.size) A2 n2 rs) (_hn2 : n2 ≤ 9223372036854775807) (hS3 : Script3 w (fun b => b < w.heap.size) A3 n3) (hn3 : n3 ≤ 9223372036854775807) :
    Calls Tryd.prog 7 #[.int .i64 words, .slice A1 n1 c1, .slice A2 n2 c2, .slice A3 n3 c3] w (YesMade true w) := by
  by_cases h1 : 2048 < words ∨ 1000 < n2
  · exact frees_great words A1 A2 A3 n1 c1 n2 c2 n3 c3 w hT h1
  · by_cases h2 : words < 2
    · exact frees_nil words A1 A2 A3 n1 c1 n2 c2 n3 c3 w hT h2 (by omega)
    · have h3 := frees_walk words.toNat A1 A2 A3 n1 c1 n2 c2 n3 c3 rs w hT (by omega) (by omega) hS1 hn1 hR hS3 hn3
      rw [Int.toNat_of_nonneg (by omega)] at h3
      exact h3
end Go.Proofs.YthokmgnkacpaiaaDoor
