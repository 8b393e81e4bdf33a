/-
  The document's own answer's heap in memory: a head that holds the number of cells and a row of objects, each of them with a row of fields; the walks of its calls that only look: Find, Next, Get, gap.
-/
import Derived.Test.YtdkbgdjkdalalaaGreatDoorHApi
namespace Go.Proofs.YtdkbgdjkdalalaaGreatDoor
open Go.RowKit
/-- A row that is owned, and lies among these blocks. -/
def RowIn (w : World) (S : Nat → Prop) (e : TypeId) (size : Nat) (v : Value) (n : Nat) (xs : List Value) : Prop := w.ownsRow 0 e size v n xs ∧ ∀ g, v.ownBlock = some g → S g
theorem RowIn.keep {w w' : World} {S : Nat → Prop} {e : TypeId} {size : Nat} {v : Value} {n : Nat} {xs : List Value} (h : RowIn w S e size v n xs) (hk : ∀ b, b < w.heap.size → S b → w'.heap[b]? = w.heap[b]?) : RowIn w' S e size v n xs := by
  refine ⟨⟨h.1.1, ?_⟩, h.2⟩
  rcases h.1.2 with hn | ⟨g, cap, cur, rfl, hr⟩
  · exact .inl hn
  · exact .inr ⟨g, cap, cur, rfl, hr.1, (hk g (World.ownsRow.lt h.1 g rfl).2 (h.2 g rfl)).trans hr.2.1, hr.2.2⟩
theorem RowIn.mono {w : World} {S T : Nat → Prop} {e : TypeId} {size : Nat} {v : Value} {n : Nat} {xs : List Value} (h : RowIn w S e size v n xs) (hT : ∀ b, S b → T b) : RowIn w T e size v n xs := ⟨h.1, fun g hg => hT g (h.2 g hg)⟩
theorem RowIn.view {w : World} {S : Nat → Prop} {e : TypeId} {size : Nat} {v : Value} {n : Nat} {xs : List Value} (h : RowIn w S e size v n xs) :
    ∃ A c, v = .slice A n c ∧ ∀ j u, xs[j]? = some u → ∃ g, A = some ⟨g, 0, none⟩ ∧ g < w.heap.size ∧ S g ∧ w.cell? ⟨g, j, none⟩ = some u := by
  have h1 := h.1
  rcases h.1.2 with ⟨rfl, rfl⟩ | ⟨g, cap, cur, rfl, hr⟩
  · refine ⟨none, 0, rfl, fun j u hu => ?_⟩
    have hl : xs.length = 0 := by simpa using h1.1
    rw [List.eq_nil_of_length_eq_zero hl] at hu
    cases hu
  · refine ⟨some ⟨g, 0, none⟩, cap, rfl, fun j u hu => ⟨g, rfl, (World.ownsRow.lt h1 g rfl).2, h.2 g rfl, ?_⟩⟩
    have hj : j < n * size := by rw [← h1.1]; exact (List.getElem?_eq_some_iff.1 hu).1
    rw [World.ownsRow.cellAt h1 j hj]
    exact hu
/-- The cells of a row of objects, each with its row of fields. -/
def obCells : List (Ob × Value) → List Value
  | [] => []
  | p :: P => .int .i64 (p.1.at_ : Int) :: .int .i64 (p.1.kind : Int) :: p.2 :: obCells P
theorem obCells_append (P Q : List (Ob × Value)) : obCells (P ++ Q) = obCells P ++ obCells Q := by
  induction P with
  | nil => rfl
  | cons p P ih => simp [obCells, ih]
theorem obCells_len (P : List (Ob × Value)) : (obCells P).length = P.length * 3 := by
  induction P with
  | nil => rfl
  | cons p P ih => simp only [obCells, List.length_cons, ih]; omega
theorem obCells_take (P : List (Ob × Value)) (i : Nat) : (obCells P).take (i * 3) = obCells (P.take i) := by
  induction P generalizing i with
  | nil => simp [obCells]
  | cons p P ih =>
    cases i with
    | zero => simp [obCells]
    | succ i => rw [show (i + 1) * 3 = i * 3 + 1 + 1 + 1 by omega]; simp [obCells, ih]
theorem obCells_drop (P : List (Ob × Value)) (i : Nat) : (obCells P).drop (i * 3) = obCells (P.drop i) := by
  induction P generalizing i with
  | nil => simp [obCells]
  | cons p P ih =>
    cases i with
    | zero => simp [obCells]
    | succ i => rw [show (i + 1) * 3 = i * 3 + 1 + 1 + 1 by omega]; simp [obCells, ih]
theorem obCells_at {P : List (Ob × Value)} {i : Nat} {p : Ob × Value} (h : P[i]? = some p) :
    (obCells P)[i * 3]? = some (.int .i64 (p.1.at_ : Int)) ∧ (obCells P)[i * 3 + 1]? = some (.int .i64 (p.1.kind : Int)) ∧ (obCells P)[i * 3 + 2]? = some p.2 := by
  induction P generalizing i with
  | nil => cases h
  | cons q P ih =>
    cases i with
    | zero => obtain rfl : q = p := by simpa using h
              exact ⟨rfl, rfl, rfl⟩
    | succ i =>
      have h1 := ih (i := i) (by simpa using h)
      rw [show (i + 1) * 3 = i * 3 + 1 + 1 + 1 by omega]
      simpa [obCells] using h1
/-- The objects' rows of fields. -/
def FieldsIn (w : World) (S : Nat → Prop) (P : List (Ob × Value)) : Prop := ∀ p ∈ P, RowIn w S 33 1 p.2 p.1.fs.length (u64s p.1.fs)
/-- A row of objects. -/
def ObsIn (w : World) (S : Nat → Prop) (v : Value) (P : List (Ob × Value)) : Prop := RowIn w S 53 3 v P.length (obCells P) ∧ FieldsIn w S P
theorem ObsIn.keep {w w' : World} {S : Nat → Prop} {v : Value} {P : List (Ob × Value)} (h : ObsIn w S v P) (hk : ∀ b, b < w.heap.size → S b → w'.heap[b]? = w.heap[b]?) : ObsIn w' S v P :=
  ⟨h.1.keep hk, fun p hp => (h.2 p hp).keep hk⟩
theorem ObsIn.mono {w : World} {S T : Nat → Prop} {v : Value} {P : List (Ob × Value)} (h : ObsIn w S v P) (hT : ∀ b, S b → T b) : ObsIn w T v P :=
  ⟨h.1.mono hT, fun p hp => (h.2 p hp).mono hT⟩
/-- At r lies such a heap. -/
def RefAt (w : World) (r : Nat) (S : Nat → Prop) (m : Nat) (L : List Ob) : Prop := S r ∧ ∃ v P, P.map (·.1) = L ∧ w.heap[r]? = some (.cells #[.int .i64 (m : Int), v] 56 (0, 0)) ∧ ObsIn w S v P
theorem RefAt.lt {w : World} {r : Nat} {S : Nat → Prop} {m : Nat} {L : List Ob} (h : RefAt w r S m L) : r < w.heap.size := by
  obtain ⟨_, v, P, _, h2, _⟩ := h
  exact lt_of_heap h2
theorem RefAt.keep {w w' : World} {r : Nat} {S : Nat → Prop} {m : Nat} {L : List Ob} (h : RefAt w r S m L) (hk : ∀ b, b < w.heap.size → S b → w'.heap[b]? = w.heap[b]?) : RefAt w' r S m L := by
  have hlt := h.lt
  obtain ⟨h1, v, P, hP, h2, h3⟩ := h
  exact ⟨h1, v, P, hP, (hk r hlt h1).trans h2, h3.keep hk⟩
theorem RefAt.below {w w' : World} {r : Nat} {S : Nat → Prop} {m : Nat} {L : List Ob} (h : RefAt w r S m L) (hb : Below w.heap.size w w') : RefAt w' r S m L := h.keep fun b hl _ => hb.block b hl
theorem RefAt.drew {w : World} {r : Nat} {S : Nat → Prop} {m : Nat} {L : List Ob} (h : RefAt w r S m L) : RefAt w.drew r S m L := h.keep fun _ _ _ => rfl
theorem RefAt.mono {w : World} {r : Nat} {S T : Nat → Prop} {m : Nat} {L : List Ob} (h : RefAt w r S m L) (hT : ∀ b, S b → T b) : RefAt w r T m L := by
  obtain ⟨h1, v, P, hP, h2, h3⟩ := h
  exact ⟨hT _ h1, v, P, hP, h2, h3.mono hT⟩
/-- What a look at it meets: the head's two cells, each object's cells, each field. -/
def ObSeen (w : World) (A : Option Addr) (i : Nat) (o : Ob) : Prop := ∃ g, A = some ⟨g, 0, none⟩ ∧ g < w.heap.size ∧ w.cell? ⟨g, i * 3, none⟩ = some (.int .i64 (o.at_ : Int)) ∧ w.cell? ⟨g, i * 3 + 1, none⟩ = some (.int .i64 (o.kind : Int)) ∧
  ∃ F cf, w.cell? ⟨g, i * 3 + 2, none⟩ = some (.slice F o.fs.length cf) ∧ ∀ (j x : Nat), o.fs[j]? = some x → ∃ f, F = some ⟨f, 0, none⟩ ∧ f < w.heap.size ∧ w.cell? ⟨f, j, none⟩ = some (.int .u64 (x : Int))
theorem RefAt.seen {w : World} {r : Nat} {S : Nat → Prop} {m : Nat} {L : List Ob} (h : RefAt w r S m L) :
    ∃ A c, w.cell? ⟨r, 0, none⟩ = some (.int .i64 (m : Int)) ∧ w.cell? ⟨r, 1, none⟩ = some (.slice A L.length c) ∧ ∀ i o, L[i]? = some o → ObSeen w A i o := by
  obtain ⟨_, v, P, rfl, h2, h3, h4⟩ := h
  obtain ⟨A, c, rfl, h5⟩ := h3.view
  refine ⟨A, c, by rw [Lib.cell_of_heap h2]; rfl, by rw [Lib.cell_of_heap h2, List.length_map]; rfl, fun i o ho => ?_⟩
  obtain ⟨p, hp, rfl⟩ : ∃ p, P[i]? = some p ∧ p.1 = o := by
    rw [List.getElem?_map] at ho
    cases hp : P[i]? with
    | none => rw [hp] at ho; cases ho
    | some p => rw [hp] at ho; exact ⟨p, rfl, Option.some.inj ho⟩
  obtain ⟨k1, k2, k3⟩ := obCells_at hp
  obtain ⟨F, cf, hv, h6⟩ := (h4 p (List.mem_of_getElem? hp)).view
  obtain ⟨g, rfl, hg, _, c1⟩ := h5 _ _ k1
  obtain ⟨g2, e2, _, _, c2⟩ := h5 _ _ k2
  obtain ⟨g3, e3, _, _, c3⟩ := h5 _ _ k3
  obtain rfl : g = g2 := by simpa using e2
  obtain rfl : g = g3 := by simpa using e3
  rw [hv] at c3
  refine ⟨g, rfl, hg, c1, c2, F, cf, c3, fun j x hx => ?_⟩
  obtain ⟨f, hf, hfl, _, hc⟩ := h6 j (.int .u64 (x : Int)) (by unfold u64s; rw [List.getElem?_map, hx]; rfl)
  exact ⟨f, hf, hfl, hc⟩
/-- The place of the object at an address, or -1. -/
def FindIs (L : List Ob) (a : Int) (w : World) (e : Ending) (w' : World) : Prop :=
  w = w' ∧ ((e = .returned (.int .i64 (-1)) ∧ ∀ (j : Nat) (o : Ob), L[j]? = some o → (o.at_ : Int) ≠ a) ∨ ∃ (i : Nat) (o : Ob), e = .returned (.int .i64 (i : Int)) ∧ L[i]? = some o ∧ (o.at_ : Int) = a)
def NotYet (L : List Ob) (a : Int) (i : Nat) : Prop := ∀ (j : Nat) (o : Ob), j < i → L[j]? = some o → (o.at_ : Int) ≠ a
theorem ref_Find (r : Nat) (S : Nat → Prop) (m : Nat) (L : List Ob) (a : Int) (w : World) (h : RefAt w r S m L) (hn : L.length ≤ 65536) :
    Calls Tryz.prog 21 #[.pointer (some ⟨r, 0, none⟩), .int .i64 a] w (FindIs L a w) := by
  obtain ⟨A, c, c0, c1, hs⟩ := h.seen
  have HS := Lib.hid hs
  clear h hs
  go_enter Tryz.func21, Tryz.ntmps21
  go_wp2_with fail
  go_loop [5] (fun vi => ∃ i : Nat, i ≤ L.length ∧ vi = .int .i64 i ∧ Hid (NotYet L a i)) (fun vi => L.length - (intOf vi).toNat)
  case atStart => exact ⟨0, by omega, by go_num, Lib.hid (fun j o hj => by omega)⟩
  case round =>
    obtain ⟨i, hil, rfl, HN⟩ := hrel
    by_cases hi : i < L.length
    · obtain ⟨o, ho⟩ : ∃ o, L[i]? = some o := ⟨_, List.getElem?_eq_getElem hi⟩
      have HO := Lib.hid ho
      obtain ⟨g, rfl, hg, k0, _, _⟩ := HS.out i o ho
      have g2 : decide ((i : Int) < (L.length : Int)) = true := by rw [decide_eq_true_iff]; omega
      clear ho
      by_cases he : (o.at_ : Int) = a
      · have B1 : ((o.at_ : Int) == a) = true := by rw [beq_iff_eq]; exact he
        have HE := Lib.hid he
        clear he
        go_wp2_with fail
        go_ret
        exact ⟨rfl, .inr ⟨i, o, rfl, HO.out, HE.out⟩⟩
      · have B1 : ((o.at_ : Int) == a) = false := by rw [beq_eq_false_iff_ne]; exact he
        have HN1 : Hid (NotYet L a (i + 1)) := Lib.hid (fun j o' hj ho' => by
          by_cases hji : j = i
          · subst hji
            have := HO.out
            rw [this] at ho'
            injection ho' with ho'
            subst ho'
            exact he
          · exact HN.out j o' (by omega) ho')
        clear he
        go_wp2_with fail
        go_round
        case rel => exact ⟨i + 1, by omega, by go_num, HN1⟩
        case measure => simp [intOf]; omega
    · have g2 : decide ((i : Int) < (L.length : Int)) = false := by rw [decide_eq_false_iff_not]; omega
      go_wp2_with fail
      go_ret
      exact ⟨rfl, .inl ⟨rfl, fun j o ho => HN.out j o (by have := (List.getElem?_eq_some_iff.1 ho).1; omega) ho⟩⟩
end Go.Proofs.YtdkbgdjkdalalaaGreatDoor
