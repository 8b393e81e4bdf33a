/-
  Lex, as the laws use it: tokens and the end, or what is wrong; a row of tokens beside what comes after.
-/
import Derived.Test.YtigbapkdpaahjaaDoorLAwk
namespace Go.Proofs.YtigbapkdpaahjaaDoor
open Go.RowKit
theorem lexV_ok {l : List UInt8} {X : List (TK × Nat)} (h : lexGo 0 0 l = .ok X) (hl : l.length ≤ 4096) : LexV l = .ok (X ++ [(⟨0, [], 0⟩, l.length)]) := by
  unfold LexV
  rw [if_neg (by omega), h]
theorem lexV_form (l : List UInt8) : (∃ X, LexV l = .ok (X ++ [(⟨0, [], 0⟩, l.length)]) ∧ lexGo 0 0 l = .ok X ∧ l.length ≤ 4096) ∨ (LexV l = .bad 4 0 ∧ 4096 < l.length) ∨ ∃ e q, LexV l = .bad e q ∧ lexGo 0 0 l = .bad e q ∧ l.length ≤ 4096 ∧ (e = 2 ∨ e = 20) ∧ q < l.length := by
  by_cases hb : 4096 < l.length
  · exact .inr (.inl ⟨lexV_big hb, hb⟩)
  · cases hg : lexGo 0 0 l with
    | ok X => exact .inl ⟨X, lexV_ok hg (by omega), rfl, by omega⟩
    | bad e q =>
      obtain ⟨_, h2, h3⟩ := lexGo_bad 0 l e q hg
      refine .inr (.inr ⟨e, q, ?_, rfl, by omega, h3, by omega⟩)
      unfold LexV
      rw [if_neg hb, hg]
/-- What Lex gave. -/
def LexOut (l : List UInt8) (B : Nat) (v : Value) (er : Int) (q : Nat) (w' : World) : Prop :=
  (er = 0 ∧ q = 0 ∧ l.length ≤ 4096 ∧ ∃ X, lexGo 0 0 l = .ok X ∧ TokRow B w' v (X ++ [(⟨0, [], 0⟩, l.length)])) ∨
  (v = .slice none 0 0 ∧ ((er = 4 ∧ q = 0 ∧ 4096 < l.length) ∨ (l.length ≤ 4096 ∧ (er = 2 ∨ er = 20) ∧ q < l.length ∧ lexGo 0 0 l = .bad er q)))
theorem LexOut.keep {l : List UInt8} {B : Nat} {v : Value} {er : Int} {q : Nat} {w w' : World} (h : LexOut l B v er q w) (hb : Below w.heap.size w w') : LexOut l B v er q w' := by
  rcases h with ⟨h1, h2, h3, X, h4, h5⟩ | h
  · exact .inl ⟨h1, h2, h3, X, h4, h5.below hb⟩
  · exact .inr h
theorem lex_out (s : ByteArray) (w : World) (hy : Syms w) : Calls Tryd.prog 9 #[.string s] w (fun e w' => ∃ v er q, e = .returned (.tuple #[v, .int .i64 er, .int .i64 (q : Nat)]) ∧ Below w.heap.size w w' ∧ LexOut s.data.toList w.heap.size v er q w') := by
  refine (lex_Lex s w hy).mono ?_
  intro e w' h
  rcases lexV_form s.data.toList with ⟨X, h1, h2, h3⟩ | ⟨h1, h2⟩ | ⟨er, q, h1, h2, h3, h4, h5⟩
  · rw [h1] at h
    obtain ⟨v, rfl, hr, hb⟩ := h
    exact ⟨v, 0, 0, rfl, hb, .inl ⟨rfl, rfl, h3, X, h2, hr⟩⟩
  · rw [h1] at h
    obtain ⟨rfl, hb⟩ := h
    exact ⟨_, 4, 0, rfl, hb, .inr ⟨rfl, .inl ⟨rfl, rfl, h2⟩⟩⟩
  · rw [h1] at h
    obtain ⟨rfl, hb⟩ := h
    exact ⟨_, er, q, rfl, hb, .inr ⟨rfl, .inr ⟨h3, h4, h5, h2⟩⟩⟩
theorem lexGo_len (p : Nat) (l : List UInt8) : ∀ T, lexGo p 0 l = .ok T → T.length ≤ l.length := by
  refine lexGo_ind (fun p l => ∀ T, lexGo p 0 l = .ok T → T.length ≤ l.length) ?_ ?_ ?_ ?_ l.length p l (Nat.le_refl _)
  · intro p T h
    obtain rfl : [] = T := LR.ok.inj h
    simp
  · intro p c r hc ih T h
    rw [lexGo_blank hc] at h
    have := ih T h
    rw [List.length_cons]; omega
  · intro p c r e hc h T hT
    rw [lexGo_err hc _ h] at hT; cases hT
  · intro p c r t n hc h ih T hT
    rw [lexGo_tok hc _ h] at hT
    obtain ⟨U, hU, rfl⟩ := LR.add_ok hT
    obtain ⟨_, h2, h3, _⟩ := oneV_tok h
    have := ih U hU
    rw [List.length_drop] at this
    rw [List.length_append, List.length_singleton]
    omega
theorem lexGo_pos (p : Nat) (l : List UInt8) : ∀ T, lexGo p 0 l = .ok T → ∀ x ∈ T, p ≤ x.2 ∧ x.2 < p + l.length := by
  refine lexGo_ind (fun p l => ∀ T, lexGo p 0 l = .ok T → ∀ x ∈ T, p ≤ x.2 ∧ x.2 < p + l.length) ?_ ?_ ?_ ?_ l.length p l (Nat.le_refl _)
  · intro p T h x hx
    obtain rfl : [] = T := LR.ok.inj h
    cases hx
  · intro p c r hc ih T h x hx
    rw [lexGo_blank hc] at h
    have := ih T h x hx
    rw [List.length_cons]; omega
  · intro p c r e hc h T hT
    rw [lexGo_err hc _ h] at hT; cases hT
  · intro p c r t n hc h ih T hT x hx
    rw [lexGo_tok hc _ h] at hT
    obtain ⟨U, hU, rfl⟩ := LR.add_ok hT
    obtain ⟨_, h2, h3, _⟩ := oneV_tok h
    rcases List.mem_append.1 hx with hx | hx
    · obtain rfl := List.mem_singleton.1 hx
      exact ⟨Nat.le_refl _, by rw [List.length_cons]; show p < _; omega⟩
    · have := ih U hU x hx
      rw [List.length_drop] at this
      omega
/-- All tokens and the end stand within the text. -/
theorem toks_pos {l : List UInt8} {X : List (TK × Nat)} (h : lexGo 0 0 l = .ok X) (i : Nat) (t : TK × Nat) (ht : (X ++ [((⟨0, [], 0⟩ : TK), l.length)])[i]? = some t) : t.2 ≤ l.length := by
  rcases List.mem_append.1 (List.mem_of_getElem? ht) with hx | hx
  · have := lexGo_pos 0 l X h t hx; omega
  · obtain rfl := List.mem_singleton.1 hx
    exact Nat.le_refl _
theorem joined (a b : ByteArray) : (a ++ b).data.toList = a.data.toList ++ b.data.toList := by simp
theorem TokRow.at_ {B : Nat} {w : World} {v : Value} {T : List (TK × Nat)} (h : TokRow B w v T) : ∃ A c, v = .slice A T.length c ∧ ∀ (W : World) (i : Nat) (t : TK × Nat), T[i]? = some t → Below w.heap.size w W → ∃ g, A = some ⟨g, 0, none⟩ ∧ B ≤ g ∧ g < w.heap.size ∧ g < W.heap.size ∧ W.cell? ⟨g, i * 4, none⟩ = some (.int .i64 t.1.kind) ∧ W.cell? ⟨g, i * 4 + 1, none⟩ = some (.int .i64 (t.2 : Nat)) ∧ W.cell? ⟨g, i * 4 + 2, none⟩ = some (.string ⟨t.1.text.toArray⟩) ∧ W.cell? ⟨g, i * 4 + 3, none⟩ = some (.int .i64 t.1.n) := by
  obtain ⟨A, c, rfl, hv⟩ := h.view
  refine ⟨A, c, rfl, fun W i t ht hb => ?_⟩
  obtain ⟨g, rfl, h1, h2, k0, k1, k2, k3⟩ := hv i t ht
  exact ⟨g, rfl, h1, h2, Nat.lt_of_lt_of_le h2 hb.size, (hb.cell (p := ⟨g, i * 4, none⟩) h2).trans k0, (hb.cell (p := ⟨g, i * 4 + 1, none⟩) h2).trans k1, (hb.cell (p := ⟨g, i * 4 + 2, none⟩) h2).trans k2, (hb.cell (p := ⟨g, i * 4 + 3, none⟩) h2).trans k3⟩
end Go.Proofs.YtigbapkdpaahjaaDoor
