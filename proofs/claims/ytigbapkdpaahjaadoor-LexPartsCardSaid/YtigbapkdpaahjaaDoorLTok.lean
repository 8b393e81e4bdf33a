/-
  Lex: the document's text of a token: what it is, and how long; tokens are small.
-/
import Derived.Test.YtigbapkdpaahjaaDoorLOut
import Derived.Test.YtigbapkdpaahjaaDoorRefQuote
namespace Go.Proofs.YtigbapkdpaahjaaDoor
open Go.RowKit
theorem readGo_small {l : List UInt8} : ∀ {m n : Int}, 0 ≤ m → m ≤ 4611686018427387903 → l.all isDig = true → readGo m l = some n → 0 ≤ n ∧ n ≤ 4611686018427387903 := by
  induction l with
  | nil => intro m n hm h0 _ h; rw [readGo] at h; cases h; exact ⟨hm, h0⟩
  | cons c r ih =>
    intro m n hm h0 ha h
    rw [List.all_cons, Bool.and_eq_true] at ha
    obtain ⟨_, h1, h2⟩ := dig_back c ha.1
    rw [readGo] at h
    split at h
    · cases h
    · exact ih (by omega) (by omega) ha.2 h
theorem readV_small (l : List UInt8) : 0 ≤ (ReadV l).1 ∧ (ReadV l).1 ≤ 4611686018427387903 := by
  unfold ReadV
  split
  · rename_i hn
    split
    · rename_i m hm
      unfold isNum at hn
      rw [Bool.and_eq_true] at hn
      exact readGo_small (by omega) (by omega) hn.1 hm
    · exact ⟨by decide, by decide⟩
  · exact ⟨by decide, by decide⟩
structure Small (b : Nat) (t : TK) : Prop where
  len : t.text.length ≤ b
  lo : 0 ≤ t.n
  hi : t.n ≤ 4611686018427387903
theorem Small.mono {b c : Nat} {t : TK} (h : Small b t) (hb : b ≤ c) : Small c t := ⟨Nat.le_trans h.len hb, h.lo, h.hi⟩
theorem oneV_small {l : List UInt8} {t : TK} {n : Nat} (h : oneV l = .tok t n) : Small l.length t := by
  have ht := oneV_tok h
  cases l with
  | nil => cases h
  | cons c r =>
    have hnl := nameOf_len (c :: r)
    rw [oneV_cons] at h
    split at h
    · obtain ⟨rfl, _⟩ := OneR.tok.inj h
      exact ⟨hnl, by show (0 : Int) ≤ 0; decide, by show (0 : Int) ≤ _; decide⟩
    · split at h
      · obtain ⟨rfl, _⟩ := OneR.tok.inj h
        exact ⟨hnl, by show (0 : Int) ≤ 0; decide, by show (0 : Int) ≤ _; decide⟩
      · split at h
        · unfold tagTok at h
          split at h
          · obtain ⟨rfl, _⟩ := OneR.tok.inj h
            have := nameOf_len r
            exact ⟨by show (nameOf r).length ≤ _; rw [List.length_cons]; omega, by show (0 : Int) ≤ 0; decide, by show (0 : Int) ≤ _; decide⟩
          · cases h
        · split at h
          · unfold intTok at h
            split at h
            · obtain ⟨rfl, _⟩ := OneR.tok.inj h
              have := readV_small (nameOf (c :: r))
              exact ⟨Nat.zero_le _, this.1, this.2⟩
            · cases h
          · split at h
            · unfold strTok at h
              split at h
              · obtain ⟨rfl, rfl⟩ := OneR.tok.inj h
                obtain ⟨h1, h2, _⟩ := ht
                have h3 := congrArg List.length h1
                rw [List.length_take] at h3
                have h4 : tokText ⟨5, (UnqV ((c :: r).take (qsize (c :: r)))).1, 0⟩ = qall (UnqV ((c :: r).take (qsize (c :: r)))).1 := rfl
                rw [h4] at h3
                have h5 := qbody_long (UnqV ((c :: r).take (qsize (c :: r)))).1
                have h6 : ∀ z : List UInt8, (qall z).length = (qbody z).length + 2 := fun z => by simp [qall]
                rw [h6] at h3
                exact ⟨by show (UnqV ((c :: r).take (qsize (c :: r)))).1.length ≤ _; omega, by show (0 : Int) ≤ 0; decide, by show (0 : Int) ≤ _; decide⟩
              · cases h
            · unfold signTok at h
              split at h
              · rename_i s hs
                obtain ⟨rfl, rfl⟩ := OneR.tok.inj h
                have h2 := ht.2.1
                exact ⟨h2, by show (0 : Int) ≤ 0; decide, by show (0 : Int) ≤ _; decide⟩
              · cases h
theorem lexGo_small (b p : Nat) (l : List UInt8) : ∀ T, l.length ≤ b → lexGo p 0 l = .ok T → ∀ x ∈ T, Small b x.1 := by
  refine lexGo_ind (fun p l => ∀ T, l.length ≤ b → lexGo p 0 l = .ok T → ∀ x ∈ T, Small b x.1) ?_ ?_ ?_ ?_ l.length p l (Nat.le_refl _)
  · intro p T _ h x hx
    obtain rfl : [] = T := LR.ok.inj h
    cases hx
  · intro p c r hc ih T hl h x hx
    rw [lexGo_blank hc] at h
    rw [List.length_cons] at hl
    exact ih T (by omega) h x hx
  · intro p c r e hc h T _ hT
    rw [lexGo_err hc _ h] at hT; cases hT
  · intro p c r t n hc h ih T hl hT x hx
    rw [lexGo_tok hc _ h] at hT
    obtain ⟨U, hU, rfl⟩ := LR.add_ok hT
    rcases List.mem_append.1 hx with hx | hx
    · obtain rfl := List.mem_singleton.1 hx
      exact (oneV_small h).mono hl
    · exact ih U (by rw [List.length_drop]; omega) hU x hx
theorem box_below (w : World) (k a n : Int) (s : ByteArray) : Below w.heap.size w (w.alloc (.cells #[.int .i64 k, .int .i64 a, .string s, .int .i64 n] 31 (0, 0))) := (Below.refl _ w).alloc (Nat.le_refl _) _
set_option maxRecDepth 100000 in
set_option maxHeartbeats 1000000 in
theorem ref_TokText (t : TK) (a : Int) (w : World) (h : Small 1000000 t) : Calls Tryd.prog 12 #[tokAgg t.kind a t.text t.n] w (StrMade (tokText t) w) := by
  obtain ⟨k, x, n⟩ := t
  obtain ⟨h1, h2, h3⟩ := h
  simp only at h1 h2 h3
  have HW := Lib.hid (box_below w k a n ⟨x.toArray⟩)
  have hxs : (⟨x.toArray⟩ : ByteArray).size = x.length := by show x.toArray.size = _; rw [List.size_toArray]
  by_cases k3 : k = 3
  · subst k3
    have HE : Hid (tokText ⟨3, x, n⟩ = [35] ++ x) := Lib.hid rfl
    have n1 : ¬ 9223372036854775807 < 1 + x.length := by omega
    unfold tokAgg
    go_enter Tryd.func12, Tryd.ntmps12
    go_wp2_with fail
    go_ret
    exact strMade_two' HE.out HW.out
  · by_cases k4 : k = 4
    · subst k4
      have HE : Hid (tokText ⟨4, x, n⟩ = Lib.itoa n) := Lib.hid rfl
      have HT := Lib.hid (fun W => ref_Text (Size n + 1) n W (by omega) (by omega) (by omega))
      unfold tokAgg
      go_enter Tryd.func12, Tryd.ntmps12
      go_wp2_with fail
      refine (HT.out _).mono ?_
      rintro e w1 ⟨rfl, hb⟩
      have HB := Lib.hid (HW.out.trans (hb.mono HW.out.size))
      clear hb
      go_wp2_with fail
      go_ret
      exact ⟨by rw [HE.out]; rfl, HB.out⟩
    · by_cases k5 : k = 5
      · subst k5
        have HE : Hid (tokText ⟨5, x, n⟩ = qall x) := Lib.hid rfl
        have HQ := Lib.hid (fun W => ref_Quote ⟨x.toArray⟩ W (by rw [hxs]; omega))
        unfold tokAgg
        go_enter Tryd.func12, Tryd.ntmps12
        go_wp2_with fail
        refine (HQ.out _).mono ?_
        rintro e w1 ⟨rfl, hb⟩
        have HB := Lib.hid (HW.out.trans (hb.mono HW.out.size))
        clear hb
        go_wp2_with fail
        go_ret
        exact ⟨by rw [HE.out]; rfl, HB.out⟩
      · have B3 : (k == 3) = false := by rw [beq_eq_false_iff_ne]; exact k3
        have B4 : (k == 4) = false := by rw [beq_eq_false_iff_ne]; exact k4
        have B5 : (k == 5) = false := by rw [beq_eq_false_iff_ne]; exact k5
        have HE : Hid (tokText ⟨k, x, n⟩ = x) := Lib.hid (by unfold tokText; rw [if_neg k3, if_neg k4, if_neg k5])
        clear k3 k4 k5
        unfold tokAgg
        go_enter Tryd.func12, Tryd.ntmps12
        go_wp2_with fail
        go_ret
        exact ⟨by rw [HE.out]; rfl, HW.out⟩
end Go.Proofs.YtigbapkdpaahjaaDoor
