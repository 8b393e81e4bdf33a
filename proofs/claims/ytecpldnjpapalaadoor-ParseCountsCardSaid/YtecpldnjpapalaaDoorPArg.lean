/-
  An expression as it was handed in: it lies in memory as the walks read it; its numbers, texts and rows are no greater than a machine's.
-/
import Derived.Test.YtecpldnjpapalaaDoorPBase
import Derived.Test.YtecpldnjpapalaaDoorPSmE
import Derived.ProofKit
import Derived.LaidMore
import Derived.OpenShut
import Derived.Deep.Slices
import Derived.Deep.Fields
import Derived.ChangeSame
import Derived.Carry
namespace Go.Proofs.YtecpldnjpapalaaDoor
set_option linter.unusedSimpArgs false
set_option linter.unusedVariables false
open Go.ChangeShapes Go.WideShapes Go.ChangeAt Go.WideMaps Go.WideElems Go.RowKit Go.Deep
def big : Nat := 140737488355328
/-- A part's own fields are no greater than a machine's. -/
structure Hd.wide (h : Hd) : Prop where
  kind : -9223372036854775808 ≤ h.kind ∧ h.kind ≤ 9223372036854775807
  pos : -9223372036854775808 ≤ h.pos ∧ h.pos ≤ 9223372036854775807
  name : h.name.length ≤ 140737488355328
  n : -9223372036854775808 ≤ h.n ∧ h.n ≤ 9223372036854775807
  s : h.s.length ≤ 140737488355328
  labels : ∀ l ∈ h.labels, l.length ≤ 140737488355328
mutual
def Nd.wide : Nd → Prop
  | .mk h l a => h.wide ∧ wideN l ∧ wideA a
def wideN : List Nd → Prop
  | [] => True
  | x :: r => x.wide ∧ wideN r
def wideA : List (Nd × Nd) → Prop
  | [] => True
  | (p, b) :: r => p.wide ∧ b.wide ∧ wideA r
end
theorem wideN_of : ∀ {l : List Nd}, (∀ x ∈ l, x.wide) → wideN l
  | [], _ => trivial
  | x :: r, h => ⟨h x (by simp), wideN_of fun y hy => h y (by simp [hy])⟩
theorem wideA_of : ∀ {l : List (Nd × Nd)}, (∀ x ∈ l, x.1.wide ∧ x.2.wide) → wideA l
  | [], _ => trivial
  | (p, b) :: r, h => ⟨(h (p, b) (by simp)).1, (h (p, b) (by simp)).2, wideA_of fun y hy => h y (by simp [hy])⟩
theorem wideN_mem : ∀ {l : List Nd}, wideN l → ∀ x ∈ l, x.wide
  | y :: r, h, x, hx => by
    rcases List.mem_cons.1 hx with rfl | hx
    · exact h.1
    · exact wideN_mem h.2 x hx
theorem wideA_mem : ∀ {l : List (Nd × Nd)}, wideA l → ∀ x ∈ l, x.1.wide ∧ x.2.wide
  | (p, b) :: r, h, x, hx => by
    rcases List.mem_cons.1 hx with rfl | hx
    · exact ⟨h.1, h.2.1⟩
    · exact wideA_mem h.2.2 x hx
theorem Nd.wide.hd {x : Nd} (h : x.wide) : x.hd.wide := by cases x; exact h.1
theorem Nd.wide.args {x : Nd} (h : x.wide) : ∀ y ∈ x.args, y.wide := by cases x; exact wideN_mem h.2.1
theorem Nd.wide.arms {x : Nd} (h : x.wide) : ∀ y ∈ x.arms, y.1.wide ∧ y.2.wide := by cases x; exact wideA_mem h.2.2
theorem choice_list {α : Type} {n : Nat} {Q : Nat → α → Prop} (h : ∀ i, i < n → ∃ a, Q i a) : ∃ l : List α, l.length = n ∧ ∀ i a, l[i]? = some a → Q i a := by
  induction n with
  | zero => exact ⟨[], rfl, fun i a h => by simp at h⟩
  | succ n ih =>
    obtain ⟨l, hl, hq⟩ := ih fun i hi => h i (by omega)
    obtain ⟨a, ha⟩ := h n (by omega)
    refine ⟨l ++ [a], by simp [hl], fun i b hb => ?_⟩
    by_cases hi : i < l.length
    · rw [List.getElem?_append_left hi] at hb
      exact hq i b hb
    · rw [List.getElem?_append_right (by omega)] at hb
      have : i - l.length = 0 := by
        have := (List.getElem?_eq_some_iff.1 hb).1
        simp at this; omega
      rw [this] at hb
      obtain rfl := Option.some.inj hb
      obtain rfl : i = n := by omega
      exact ha
theorem flat_get {k : Nat} : ∀ {L : List (List Value)} {i : Nat} {u : Value}, (∀ c ∈ L, c.length = k) → L.flatten[i]? = some u → ∃ q j cs, i = q * k + j ∧ L[q]? = some cs ∧ cs[j]? = some u
  | [], _, _, _, h => by simp at h
  | c :: L, i, u, hL, h => by
    have hc := hL c (by simp)
    rw [List.flatten_cons] at h
    by_cases hi : i < c.length
    · rw [List.getElem?_append_left hi] at h
      exact ⟨0, i, c, by omega, rfl, h⟩
    · rw [List.getElem?_append_right (by omega)] at h
      obtain ⟨q, j, cs, h1, h2, h3⟩ := flat_get (fun d hd => hL d (by simp [hd])) h
      refine ⟨q + 1, j, cs, ?_, by simpa using h2, h3⟩
      rw [Nat.add_mul]; omega
theorem cellsIn_of {w : World} {g o : Nat} {u : Value} (h : w.cell? ⟨g, o, none⟩ = some u) : CellsIn w g := by
  unfold World.cell? at h
  simp only at h
  cases hb : w.heap[g]? with
  | none => rw [hb] at h; cases h
  | some b =>
    rw [hb] at h
    cases b with
    | cells c t f => exact ⟨c, t, f, hb⟩
    | _ => first | (cases h; done) | (simp at h; done)
section
variable {H : Type} {enc : TypeId × Value → H} {w : World} {spare : Nat → Bool} {held : Bool}
def Light (t : TypeId) (d : DataW H) : Prop := ∀ n ∈ d.weights Tryd.prog t, n ≤ reachBytes
theorem Light.field {t : TypeId} {fs : Array Field} {parts : List (DataW H)} {j : Nat} {f : Field} {d : DataW H} (h : Light t (.agg parts)) (hu : Tryd.prog.underlying t = some (.struct fs)) (hf : fs[j]? = some f) (hd : parts[j]? = some d) : Light f.type d := fun n hn => h n (by
  simp only [DataW.weights, hu]
  exact DataW.weights_mem_each (j := j) (t := f.type) (by rw [List.getElem?_map, Array.getElem?_toList, hf]; rfl) hd n hn)
theorem weightsAll_mem {e : TypeId} : ∀ {l : List (DataW H)} {d : DataW H}, d ∈ l → ∀ n ∈ d.weights Tryd.prog e, n ∈ DataW.weightsAll Tryd.prog e l
  | a :: l, d, hd, n, hn => by
    simp only [DataW.weightsAll, List.mem_append]
    rcases List.mem_cons.1 hd with rfl | hd
    · exact .inl hn
    · exact .inr (weightsAll_mem hd n hn)
theorem Light.elem {t e : TypeId} {elems rest : List (DataW H)} {d : DataW H} (h : Light t (.slice elems rest)) (hu : Tryd.prog.underlying t = some (.slice e)) (hd : d ∈ elems) : Light e d := fun n hn => h n (by
  simp only [DataW.weights, hu, List.mem_cons, List.mem_append]
  exact .inr (.inl (weightsAll_mem hd n hn)))
theorem Light.text {t : TypeId} {l : List UInt8} (h : Light t (.lit (.string l) : DataW H)) : l.length ≤ 140737488355328 := by
  have h1 := h l.length (by simp [DataW.weights])
  have h2 : reachBytes ≤ 140737488355328 := by decide
  omega
/-- The elements of a row that was handed in. -/
theorem row_elems {t e : TypeId} {k fuel : Nat} {v : Value} {x : DataW H × List MemPlace} (hu : Tryd.prog.underlying t = some (.slice e)) (hk : Tryd.prog.cellsOf e = k) (hk0 : 0 < k) (h : DataW.trod enc Tryd.prog w 0 spare held fuel t [v] = some x) (hL : Light t x.1) (Q : List Value → Prop)
    (hq : ∀ (n : Nat) (cs : List Value) (y : DataW H × List MemPlace), n < fuel → DataW.trod enc Tryd.prog w 0 spare held n e cs = some y → Light e y.1 → cs.length = k → Q cs) :
    ∃ (n : Nat) (L : List (List Value)), L.length = n ∧ (∀ (i : Nat) (cs : List Value), L[i]? = some cs → cs.length = k ∧ Q cs) ∧ RowIn w (fun _ => True) e k v n L.flatten := by
  rcases DataW.trod_slice hu h with ⟨hv, _⟩ | ⟨a, len, cap, elems, rest, n, rfl, hv, rfl, _, hlc, hcm, hel, hget, _, _⟩
  · obtain rfl : v = .slice none 0 0 := (List.cons.inj hv).1
    exact ⟨0, [], rfl, fun i cs h => by simp at h, rowIn_nil _ _ _ _⟩
  · obtain rfl : v = .slice (some a) len cap := (List.cons.inj hv).1
    have hone : ∀ i, i < len → ∃ cs : List Value, (∀ j, j < k → w.cell? (a.add (i * k + j)) = cs[j]?) ∧ cs.length = k ∧ Q cs := by
      intro i hi
      have h1 := hget i hi
      have h2 : i < elems.length := by omega
      rw [List.getElem?_eq_getElem h2, hk] at h1
      obtain ⟨cs, hc, ht⟩ := Option.bind_eq_some_iff.1 h1
      obtain ⟨_, hcl, hat⟩ := World.cells?_some hc
      refine ⟨cs, fun j hj => by rw [← hat j hj, add_add], hcl, hq n cs _ (Nat.lt_succ_self n) ht ?_ hcl⟩
      exact hL.elem hu (List.mem_map.2 ⟨_, List.getElem_mem h2, rfl⟩)
    obtain ⟨L, hLl, hLq⟩ := choice_list hone
    refine ⟨len, L, hLl, fun i cs hi => (hLq i cs hi).2, ⟨some a, cap, rfl, hlc, ?_⟩, by unfold maxLen at hcm; omega⟩
    by_cases h0 : len = 0
    · exact .inl h0
    · right
      have hz : ∃ cs, L[0]? = some cs := ⟨_, List.getElem?_eq_getElem (by omega)⟩
      obtain ⟨cs0, hz⟩ := hz
      obtain ⟨hz1, hz2, _⟩ := hLq 0 cs0 hz
      have c0 := hz1 0 hk0
      rw [Nat.zero_mul, Nat.add_zero, List.getElem?_eq_getElem (by omega)] at c0
      have hspot : a.spot = none := by simpa [Addr.add] using World.cell?_spot c0
      obtain ⟨b, off, spot⟩ := a
      subst hspot
      have hadd : ∀ j, (Addr.add ⟨b, off, none⟩ j) = ⟨b, off + j, none⟩ := fun j => by unfold Addr.add; split <;> simp_all
      rw [hadd] at c0
      refine ⟨b, off, rfl, trivial, cellsIn_of c0, fun i u hu => ?_⟩
      obtain ⟨q, j, cs, rfl, h2, h3⟩ := flat_get (k := k) (fun c hc => by
        obtain ⟨i, hi⟩ := List.getElem?_of_mem hc
        exact (hLq i c hi).2.1) hu
      obtain ⟨h4, h5, _⟩ := hLq q cs h2
      have hj := (List.getElem?_eq_some_iff.1 h3).1
      rw [← hadd, h4 j (by omega)]
      exact h3
theorem trod_one {t : TypeId} {fs : Array Field} {cs : List Value} {n j : Nat} {T : TypeId} {ys : List (DataW H × List MemPlace)} (hone : oneCellFields Tryd.prog fs = true) (hu : Tryd.prog.underlying t = some (.struct fs)) (hlen : ys.length = fs.size) (hcl : cs.length = fs.size)
    (hall : ∀ (j : Nat) (f : Field), fs[j]? = some f → DataW.trod enc Tryd.prog w 0 spare held n f.type ((cs.drop f.offset).take (Tryd.prog.cellsOf f.type)) = ys[j]?)
    (hL : Light t (.agg (ys.map (·.1)) : DataW H)) (hT : (fs[j]?).map (·.type) = some T) : ∃ v y, cs[j]? = some v ∧ DataW.trod enc Tryd.prog w 0 spare held n T [v] = some y ∧ Light T y.1 := by
  cases hf : fs[j]? with
  | none => rw [hf] at hT; cases hT
  | some f =>
    rw [hf] at hT
    obtain rfl : f.type = T := Option.some.inj hT
    obtain ⟨h1, h2⟩ := hone_of hone j f hf
    have h3 := hall j f hf
    have hj : j < fs.size := (Array.getElem?_eq_some_iff.1 hf).1
    rw [h1, h2, List.getElem?_eq_getElem (show j < ys.length by omega)] at h3
    have h4 : (cs.drop j).take 1 = [cs[j]'(by omega)] := by
      rw [List.drop_eq_getElem_cons (by omega)]; rfl
    rw [h4] at h3
    exact ⟨_, _, List.getElem?_eq_getElem (by omega), h3, hL.field hu hf (by rw [List.getElem?_map, List.getElem?_eq_getElem (show j < ys.length by omega)]; rfl)⟩
theorem int_one {n : Nat} {T : TypeId} {v : Value} {y : DataW H × List MemPlace} (hu : Tryd.prog.underlying T = some (.int .i64)) (h : DataW.trod enc Tryd.prog w 0 spare held n T [v] = some y) : ∃ z : Int, v = .int .i64 z ∧ -9223372036854775808 ≤ z ∧ z ≤ 9223372036854775807 := by
  obtain ⟨z, hz, _, hw⟩ := DataW.trod_int hu h
  have hb := bounds_i64 hw
  exact ⟨z, (List.cons.inj hz).1, hb.1, hb.2⟩
theorem text_one {n : Nat} {v : Value} {y : DataW H × List MemPlace} (h : DataW.trod enc Tryd.prog w 0 spare held n 9 [v] = some y) (hL : Light 9 y.1) : ∃ l : List UInt8, v = .string ⟨l.toArray⟩ ∧ l.length ≤ 140737488355328 := by
  obtain ⟨s, hs, rfl, _⟩ := DataW.trod_string Tryd.underlying9 h
  exact ⟨s.data.toList, (List.cons.inj hs).1.trans (by simp), hL.text⟩
theorem texts_one {n : Nat} {v : Value} {y : DataW H × List MemPlace} (h : DataW.trod enc Tryd.prog w 0 spare held n 24 [v] = some y) (hL : Light 24 y.1) : ∃ ls : List (List UInt8), RowIn w (fun _ => True) 9 1 v ls.length (strCells ls) ∧ ∀ l ∈ ls, l.length ≤ 140737488355328 := by
  obtain ⟨m, L, hLl, hLq, hrow⟩ := row_elems (k := 1) Tryd.underlying24 (by kernel_rfl) (by decide) h hL (fun cs => ∃ l : List UInt8, cs = [.string ⟨l.toArray⟩] ∧ l.length ≤ 140737488355328) (fun n cs y _ ht hl hc => by
    obtain ⟨u, rfl⟩ : ∃ u, cs = [u] := List.length_eq_one_iff.1 hc
    obtain ⟨l, rfl, h9⟩ := text_one ht hl
    exact ⟨l, rfl, h9⟩)
  obtain ⟨ls, hl1, hl2⟩ := choice_list (n := m) (Q := fun i (l : List UInt8) => L[i]? = some [.string ⟨l.toArray⟩] ∧ l.length ≤ 140737488355328) (fun i hi => by
    have h1 : L[i]? = some L[i] := List.getElem?_eq_getElem (by omega)
    obtain ⟨_, l, h2, h3⟩ := hLq i _ h1
    exact ⟨l, by rw [h1, h2], h3⟩)
  have he : L = ls.map fun l => [.string ⟨l.toArray⟩] := by
    refine List.ext_getElem? fun i => ?_
    by_cases hi : i < ls.length
    · rw [(hl2 i _ (List.getElem?_eq_getElem hi)).1, List.getElem?_map, List.getElem?_eq_getElem hi]; rfl
    · rw [List.getElem?_eq_none (by omega), List.getElem?_eq_none (by rw [List.length_map]; omega)]
  refine ⟨ls, ?_, fun l hl => ?_⟩
  · have h1 : L.flatten = strCells ls := by
      rw [he]
      unfold strCells
      induction ls with
      | nil => rfl
      | cons a ls ih => exact congrArg (_ :: ·) (by
          have : ∀ r : List (List UInt8), (r.map fun l => [Value.string ⟨l.toArray⟩]).flatten = r.map fun x => .string ⟨x.toArray⟩ := fun r => by
            induction r with
            | nil => rfl
            | cons b r ih => exact congrArg (_ :: ·) ih
          exact this ls)
    rw [h1] at hrow
    rw [hl1]; exact hrow
  · obtain ⟨i, hi⟩ := List.getElem?_of_mem hl
    exact (hl2 i l hi).2
theorem isPs_of {N : Nat → Prop} : ∀ {L : List (List Value)} {l : List Nd}, L.length = l.length → (∀ (i : Nat) (x : Nd), l[i]? = some x → ∃ cs, L[i]? = some cs ∧ IsP w N cs x) → IsPs w N L l
  | [], [], _, _ => trivial
  | cs :: L, x :: l, hl, h => ⟨by
      obtain ⟨c, h1, h2⟩ := h 0 x rfl
      obtain rfl := Option.some.inj h1
      exact h2, isPs_of (by simpa using hl) fun i y hy => by
      obtain ⟨c, h1, h2⟩ := h (i + 1) y (by simpa using hy)
      exact ⟨c, by simpa using h1, h2⟩⟩
  | [], _ :: _, hl, _ => by cases hl
  | _ :: _, [], hl, _ => by cases hl
theorem isEs_of {N : Nat → Prop} : ∀ {L : List (List Value)} {l : List Nd}, L.length = l.length → (∀ (i : Nat) (x : Nd), l[i]? = some x → ∃ cs, L[i]? = some cs ∧ IsE w N cs x) → IsEs w N L l
  | [], [], _, _ => trivial
  | cs :: L, x :: l, hl, h => ⟨by
      obtain ⟨c, h1, h2⟩ := h 0 x rfl
      obtain rfl := Option.some.inj h1
      exact h2, isEs_of (by simpa using hl) fun i y hy => by
      obtain ⟨c, h1, h2⟩ := h (i + 1) y (by simpa using hy)
      exact ⟨c, by simpa using h1, h2⟩⟩
  | [], _ :: _, hl, _ => by cases hl
  | _ :: _, [], hl, _ => by cases hl
theorem isAs_of {N : Nat → Prop} : ∀ {L : List (List Value)} {l : List (Nd × Nd)}, L.length = l.length → (∀ (i : Nat) (x : Nd × Nd), l[i]? = some x → ∃ c1 c2, L[i]? = some (c1 ++ c2) ∧ IsP w N c1 x.1 ∧ IsE w N c2 x.2) → IsAs w N L l
  | [], [], _, _ => trivial
  | cs :: L, (p, b) :: l, hl, h => ⟨by
      obtain ⟨c1, c2, h1, h2, h3⟩ := h 0 (p, b) rfl
      obtain rfl := Option.some.inj h1
      exact ⟨c1, c2, rfl, h2, h3⟩, isAs_of (by simpa using hl) fun i y hy => by
      obtain ⟨c1, c2, h1, h2⟩ := h (i + 1) y (by simpa using hy)
      exact ⟨c1, c2, by simpa using h1, h2⟩⟩
  | [], _ :: _, hl, _ => by cases hl
  | _ :: _, [], hl, _ => by cases hl
end
noncomputable def fieldsOf (t : TypeId) : Array Field := match Tryd.prog.underlying t with
  | some (.struct fs) => fs
  | _ => #[]
theorem under_of {t : TypeId} (h : (match Tryd.prog.underlying t with | some (.struct _) => true | _ => false) = true) : Tryd.prog.underlying t = some (.struct (fieldsOf t)) := by
  unfold fieldsOf
  cases hu : Tryd.prog.underlying t with
  | none => rw [hu] at h; cases h
  | some u => rw [hu] at h; cases u <;> first | rfl | cases h
theorem patUnder : Tryd.prog.underlying 57 = some (.struct (fieldsOf 57)) := under_of (by kernel_rfl)
theorem exprUnder : Tryd.prog.underlying 28 = some (.struct (fieldsOf 28)) := under_of (by kernel_rfl)
theorem armUnder : Tryd.prog.underlying 59 = some (.struct (fieldsOf 59)) := under_of (by kernel_rfl)
section
variable {H : Type} {enc : TypeId × Value → H} {w : World} {spare : Nat → Bool} {held : Bool}
theorem list7 {cs : List Value} {v0 v1 v2 v3 v4 v5 v6 : Value} (h : cs.length = 7) (h0 : cs[0]? = some v0) (h1 : cs[1]? = some v1) (h2 : cs[2]? = some v2) (h3 : cs[3]? = some v3) (h4 : cs[4]? = some v4) (h5 : cs[5]? = some v5) (h6 : cs[6]? = some v6) : cs = [v0, v1, v2, v3, v4, v5, v6] := by
  refine List.ext_getElem? fun i => ?_
  match i with
  | 0 => exact h0
  | 1 => exact h1
  | 2 => exact h2
  | 3 => exact h3
  | 4 => exact h4
  | 5 => exact h5
  | 6 => exact h6
  | n + 7 => rw [List.getElem?_eq_none (by omega), List.getElem?_eq_none (by simp)]
theorem list8 {cs : List Value} {v0 v1 v2 v3 v4 v5 v6 v7 : Value} (h : cs.length = 8) (h0 : cs[0]? = some v0) (h1 : cs[1]? = some v1) (h2 : cs[2]? = some v2) (h3 : cs[3]? = some v3) (h4 : cs[4]? = some v4) (h5 : cs[5]? = some v5) (h6 : cs[6]? = some v6) (h7 : cs[7]? = some v7) : cs = [v0, v1, v2, v3, v4, v5, v6, v7] := by
  refine List.ext_getElem? fun i => ?_
  match i with
  | 0 => exact h0
  | 1 => exact h1
  | 2 => exact h2
  | 3 => exact h3
  | 4 => exact h4
  | 5 => exact h5
  | 6 => exact h6
  | 7 => exact h7
  | n + 8 => rw [List.getElem?_eq_none (by omega), List.getElem?_eq_none (by simp)]
/-- A pattern that was handed in. -/
theorem pat_of : ∀ (fuel : Nat) (cs : List Value) (x : DataW H × List MemPlace), DataW.trod enc Tryd.prog w 0 spare held fuel 57 cs = some x → Light 57 x.1 → ∃ nd s, cs = paL nd s ∧ IsP w (fun _ => True) (paL nd s) nd ∧ nd.wide := by
  intro fuel
  induction fuel using Nat.strongRecOn with
  | _ fuel ih =>
    intro cs x h hL
    obtain ⟨ys, n, rfl, rfl, hcl, hyl, hf⟩ := DataW.trod_struct patUnder h
    have hsz : (fieldsOf 57).size = 7 := by kernel_rfl
    have hcl : cs.length = 7 := hcl.trans (by kernel_rfl)
    have hone : oneCellFields Tryd.prog (fieldsOf 57) = true := by kernel_rfl
    have hcs : cs.length = (fieldsOf 57).size := by rw [hcl, hsz]
    obtain ⟨v0, y0, e0, t0, l0⟩ := trod_one (j := 0) (T := 3) hone patUnder hyl hcs hf hL (by kernel_rfl)
    obtain ⟨v1, y1, e1, t1, l1⟩ := trod_one (j := 1) (T := 3) hone patUnder hyl hcs hf hL (by kernel_rfl)
    obtain ⟨v2, y2, e2, t2, l2⟩ := trod_one (j := 2) (T := 9) hone patUnder hyl hcs hf hL (by kernel_rfl)
    obtain ⟨v3, y3, e3, t3, l3⟩ := trod_one (j := 3) (T := 2) hone patUnder hyl hcs hf hL (by kernel_rfl)
    obtain ⟨v4, y4, e4, t4, l4⟩ := trod_one (j := 4) (T := 9) hone patUnder hyl hcs hf hL (by kernel_rfl)
    obtain ⟨v5, y5, e5, t5, l5⟩ := trod_one (j := 5) (T := 24) hone patUnder hyl hcs hf hL (by kernel_rfl)
    obtain ⟨v6, y6, e6, t6, l6⟩ := trod_one (j := 6) (T := 55) hone patUnder hyl hcs hf hL (by kernel_rfl)
    obtain ⟨z0, rfl, b0⟩ := int_one Tryd.underlying3 t0
    obtain ⟨z1, rfl, b1⟩ := int_one Tryd.underlying3 t1
    obtain ⟨s2, rfl, b2⟩ := text_one t2 l2
    obtain ⟨z3, rfl, b3⟩ := int_one Tryd.underlying2 t3
    obtain ⟨s4, rfl, b4⟩ := text_one t4 l4
    obtain ⟨ls, r5, b5⟩ := texts_one t5 l5
    obtain ⟨m, L, hLl, hLq, r6⟩ := row_elems (k := 7) Tryd.underlying55 (by kernel_rfl) (by decide) t6 l6 (fun cs => ∃ nd s, cs = paL nd s ∧ IsP w (fun _ => True) (paL nd s) nd ∧ nd.wide) (fun n' cs y hn ht hl _ => ih n' (by omega) cs y ht hl)
    obtain ⟨nds, hn1, hn2⟩ := choice_list (n := m) (Q := fun i (nd : Nd) => ∃ s, L[i]? = some (paL nd s) ∧ IsP w (fun _ => True) (paL nd s) nd ∧ nd.wide) (fun i hi => by
      have h1 : L[i]? = some L[i] := List.getElem?_eq_getElem (by omega)
      obtain ⟨_, nd, s, h2, h3, h4⟩ := hLq i _ h1
      exact ⟨nd, s, by rw [h1, h2], h3, h4⟩)
    obtain ⟨a5, c5, rfl⟩ := r5.form
    obtain ⟨a6, c6, rfl⟩ := r6.form
    have h9 := list7 hcl e0 e1 e2 e3 e4 e5 e6
    rw [← hn1] at r6 h9
    refine ⟨.mk ⟨z0, z1, s2, z3, s4, ls⟩ nds [], ⟨a5, c5, a6, c6, none, 0⟩, h9, ⟨rfl, _, _, rfl, r5, L, r6, isPs_of (by omega) fun i x hx => ?_⟩, ⟨b0, b1, b2, b3, b4, b5⟩, wideN_of fun x hx => ?_, trivial⟩
    · obtain ⟨s, h1, h2, _⟩ := hn2 i x hx
      exact ⟨_, h1, h2⟩
    · obtain ⟨i, hi⟩ := List.getElem?_of_mem hx
      obtain ⟨s, _, _, h3⟩ := hn2 i x hi
      exact h3
/-- An expression that was handed in. -/
theorem expr_of : ∀ (fuel : Nat) (cs : List Value) (x : DataW H × List MemPlace), DataW.trod enc Tryd.prog w 0 spare held fuel 28 cs = some x → Light 28 x.1 → ∃ nd s, cs = exL nd s ∧ IsE w (fun _ => True) (exL nd s) nd ∧ nd.wide := by
  intro fuel
  induction fuel using Nat.strongRecOn with
  | _ fuel ih =>
    intro cs x h hL
    obtain ⟨ys, n, rfl, rfl, hcl, hyl, hf⟩ := DataW.trod_struct exprUnder h
    have hsz : (fieldsOf 28).size = 8 := by kernel_rfl
    have hcl : cs.length = 8 := hcl.trans (by kernel_rfl)
    have hone : oneCellFields Tryd.prog (fieldsOf 28) = true := by kernel_rfl
    have hcs : cs.length = (fieldsOf 28).size := by rw [hcl, hsz]
    obtain ⟨v0, y0, e0, t0, l0⟩ := trod_one (j := 0) (T := 3) hone exprUnder hyl hcs hf hL (by kernel_rfl)
    obtain ⟨v1, y1, e1, t1, l1⟩ := trod_one (j := 1) (T := 3) hone exprUnder hyl hcs hf hL (by kernel_rfl)
    obtain ⟨v2, y2, e2, t2, l2⟩ := trod_one (j := 2) (T := 9) hone exprUnder hyl hcs hf hL (by kernel_rfl)
    obtain ⟨v3, y3, e3, t3, l3⟩ := trod_one (j := 3) (T := 2) hone exprUnder hyl hcs hf hL (by kernel_rfl)
    obtain ⟨v4, y4, e4, t4, l4⟩ := trod_one (j := 4) (T := 9) hone exprUnder hyl hcs hf hL (by kernel_rfl)
    obtain ⟨v5, y5, e5, t5, l5⟩ := trod_one (j := 5) (T := 24) hone exprUnder hyl hcs hf hL (by kernel_rfl)
    obtain ⟨v6, y6, e6, t6, l6⟩ := trod_one (j := 6) (T := 25) hone exprUnder hyl hcs hf hL (by kernel_rfl)
    obtain ⟨v7, y7, e7, t7, l7⟩ := trod_one (j := 7) (T := 26) hone exprUnder hyl hcs hf hL (by kernel_rfl)
    obtain ⟨z0, rfl, b0⟩ := int_one Tryd.underlying3 t0
    obtain ⟨z1, rfl, b1⟩ := int_one Tryd.underlying3 t1
    obtain ⟨s2, rfl, b2⟩ := text_one t2 l2
    obtain ⟨z3, rfl, b3⟩ := int_one Tryd.underlying2 t3
    obtain ⟨s4, rfl, b4⟩ := text_one t4 l4
    obtain ⟨ls, r5, b5⟩ := texts_one t5 l5
    obtain ⟨m, L, hLl, hLq, r6⟩ := row_elems (k := 8) Tryd.underlying25 (by kernel_rfl) (by decide) t6 l6 (fun cs => ∃ nd s, cs = exL nd s ∧ IsE w (fun _ => True) (exL nd s) nd ∧ nd.wide) (fun n' cs y hn ht hl _ => ih n' (by omega) cs y ht hl)
    obtain ⟨nds, hn1, hn2⟩ := choice_list (n := m) (Q := fun i (nd : Nd) => ∃ s, L[i]? = some (exL nd s) ∧ IsE w (fun _ => True) (exL nd s) nd ∧ nd.wide) (fun i hi => by
      have h1 : L[i]? = some L[i] := List.getElem?_eq_getElem (by omega)
      obtain ⟨_, nd, s, h2, h3, h4⟩ := hLq i _ h1
      exact ⟨nd, s, by rw [h1, h2], h3, h4⟩)
    obtain ⟨m', M, hMl, hMq, r7⟩ := row_elems (k := 15) Tryd.underlying26 (by kernel_rfl) (by decide) t7 l7 (fun cs => ∃ (p b : Nd) (c1 c2 : List Value), cs = c1 ++ c2 ∧ IsP w (fun _ => True) c1 p ∧ IsE w (fun _ => True) c2 b ∧ p.wide ∧ b.wide) (fun n' cs y hn ht hl hc => by
      obtain ⟨zs, k, rfl, rfl, _, hzl, hg⟩ := DataW.trod_struct armUnder ht
      have hf0 : ((fieldsOf 59)[0]?).map (fun f => (f.type, f.offset)) = some (57, 0) := by kernel_rfl
      have hf1 : ((fieldsOf 59)[1]?).map (fun f => (f.type, f.offset)) = some (28, 7) := by kernel_rfl
      have hz2 : zs.length = 2 := hzl.trans (by kernel_rfl)
      cases hq0 : (fieldsOf 59)[0]? with
      | none => rw [hq0] at hf0; cases hf0
      | some f0 =>
        cases hq1 : (fieldsOf 59)[1]? with
        | none => rw [hq1] at hf1; cases hf1
        | some f1 =>
          rw [hq0] at hf0
          rw [hq1] at hf1
          have hf0 := Option.some.inj hf0
          have hf1 := Option.some.inj hf1
          have ft0 : f0.type = 57 := congrArg (fun x => x.1) hf0
          have fo0 : f0.offset = 0 := congrArg (fun x => x.2) hf0
          have ft1 : f1.type = 28 := congrArg (fun x => x.1) hf1
          have fo1 : f1.offset = 7 := congrArg (fun x => x.2) hf1
          have g0 := hg 0 f0 hq0
          have g1 := hg 1 f1 hq1
          have lz0 := hl.field armUnder hq0 (d := zs[0].1) (by rw [List.getElem?_map, List.getElem?_eq_getElem (by omega)]; rfl)
          have lz1 := hl.field armUnder hq1 (d := zs[1].1) (by rw [List.getElem?_map, List.getElem?_eq_getElem (by omega)]; rfl)
          rw [ft0, fo0, List.drop_zero, List.getElem?_eq_getElem (by omega)] at g0
          rw [ft1, fo1, List.getElem?_eq_getElem (by omega)] at g1
          rw [ft0] at lz0
          rw [ft1] at lz1
          obtain ⟨p, s, hp1, hp2, hp3⟩ := pat_of k _ _ g0 lz0
          obtain ⟨b, r, hb1, hb2, hb3⟩ := ih k (by omega) _ _ g1 lz1
          have hc1 : Tryd.prog.cellsOf 57 = 7 := by kernel_rfl
          have hc2 : Tryd.prog.cellsOf 28 = 8 := by kernel_rfl
          rw [hc1] at hp1
          rw [hc2] at hb1
          refine ⟨p, b, paL p s, exL b r, ?_, hp2, hb2, hp3, hb3⟩
          rw [← hp1, ← hb1, List.take_of_length_le (l := cs.drop 7) (by rw [List.length_drop]; omega), List.take_append_drop])
    obtain ⟨ars, ha1, ha2⟩ := choice_list (n := m') (Q := fun i (c : Nd × Nd) => ∃ c1 c2, M[i]? = some (c1 ++ c2) ∧ IsP w (fun _ => True) c1 c.1 ∧ IsE w (fun _ => True) c2 c.2 ∧ c.1.wide ∧ c.2.wide) (fun i hi => by
      have h1 : M[i]? = some M[i] := List.getElem?_eq_getElem (by omega)
      obtain ⟨_, p, b, c1, c2, h2, h3, h4, h5, h6⟩ := hMq i _ h1
      exact ⟨(p, b), c1, c2, by rw [h1, h2], h3, h4, h5, h6⟩)
    obtain ⟨a5, c5, rfl⟩ := r5.form
    obtain ⟨a6, c6, rfl⟩ := r6.form
    obtain ⟨a7, c7, rfl⟩ := r7.form
    have h9 := list8 hcl e0 e1 e2 e3 e4 e5 e6 e7
    rw [← hn1] at r6 h9
    rw [← ha1] at r7 h9
    refine ⟨.mk ⟨z0, z1, s2, z3, s4, ls⟩ nds ars, ⟨a5, c5, a6, c6, a7, c7⟩, h9, ⟨_, _, _, rfl, r5, ⟨L, r6, isEs_of (by omega) fun i x hx => ?_⟩, M, r7, isAs_of (by omega) fun i x hx => ?_⟩, ⟨b0, b1, b2, b3, b4, b5⟩, wideN_of fun x hx => ?_, wideA_of fun x hx => ?_⟩
    · obtain ⟨s, h1, h2, _⟩ := hn2 i x hx
      exact ⟨_, h1, h2⟩
    · obtain ⟨c1, c2, h1, h2, h3, _⟩ := ha2 i x hx
      exact ⟨c1, c2, h1, h2, h3⟩
    · obtain ⟨i, hi⟩ := List.getElem?_of_mem hx
      obtain ⟨s, _, _, h3⟩ := hn2 i x hi
      exact h3
    · obtain ⟨i, hi⟩ := List.getElem?_of_mem hx
      obtain ⟨c1, c2, _, _, _, h3⟩ := ha2 i x hi
      exact h3
end
theorem laidOut : laidOutB Tryd.prog = true := by kernel_rfl
theorem light_of {H : Type} {ts : List TypeId} {ds : List (DataW H)} (h : (DataW.weightsEach Tryd.prog ts ds).all (· ≤ reachBytes) = true) {j : Nat} {t : TypeId} {d : DataW H} (ht : ts[j]? = some t) (hd : ds[j]? = some d) : Light t d := fun n hn => by
  have := List.all_eq_true.1 h _ (DataW.weights_mem_each ht hd n hn)
  simpa using this
section
variable {H : Type} {enc : TypeId × Value → H} {P : Program} {w : World} {base : Nat} {spare : Nat → Bool} {held : Bool}
theorem trodAll_five {t t' t'' t3 t4 : TypeId} {args : Array Value} {ds : List (DataW H)} {ps : List MemPlace} (h : DataW.TrodAll enc P w base spare held [t, t', t'', t3, t4] args.toList ds ps) :
    ∃ v v' v'' v3 v4 d d' d'' d3 d4 p p' p'' p3 p4, args = #[v, v', v'', v3, v4] ∧ ds = [d, d', d'', d3, d4] ∧ ps = p ++ p' ++ p'' ++ p3 ++ p4 ∧ DataW.Trod enc P w base spare held t v d p ∧ DataW.Trod enc P w base spare held t' v' d' p' ∧ DataW.Trod enc P w base spare held t'' v'' d'' p'' ∧ DataW.Trod enc P w base spare held t3 v3 d3 p3 ∧ DataW.Trod enc P w base spare held t4 v4 d4 p4 := by
  obtain ⟨v, vs, d, es, p, q, hargs, rfl, rfl, hd, hrest⟩ := trodAll_cons h
  obtain ⟨v', vs', d', es', p', q', rfl, rfl, rfl, hd', hrest'⟩ := trodAll_cons hrest
  obtain ⟨v'', vs'', d'', es2, p'', q'', rfl, rfl, rfl, hd'', hrest''⟩ := trodAll_cons hrest'
  obtain ⟨v3, vs3, d3, es3, p3, q3, rfl, rfl, rfl, hd3, hrest3⟩ := trodAll_cons hrest''
  obtain ⟨v4, vs4, d4, es4, p4, q4, rfl, rfl, rfl, hd4, hrest4⟩ := trodAll_cons hrest3
  obtain ⟨rfl, rfl, rfl⟩ := trodAll_nil hrest4
  exact ⟨v, v', v'', v3, v4, d, d', d'', d3, d4, p, p', p'', p3, p4, by cases args; simp_all, rfl, by simp, hd, hd', hd'', hd3, hd4⟩
theorem trodAll_mk5 {t t' t'' t3 t4 : TypeId} {v v' v'' v3 v4 : Value} {d d' d'' d3 d4 : DataW H} {p p' p'' p3 p4 : List MemPlace} (h : DataW.Trod enc P w base spare held t v d p) (h' : DataW.Trod enc P w base spare held t' v' d' p')
    (h'' : DataW.Trod enc P w base spare held t'' v'' d'' p'') (h3 : DataW.Trod enc P w base spare held t3 v3 d3 p3) (h4 : DataW.Trod enc P w base spare held t4 v4 d4 p4) : DataW.TrodAll enc P w base spare held [t, t', t'', t3, t4] [v, v', v'', v3, v4] [d, d', d'', d3, d4] (p ++ (p' ++ (p'' ++ (p3 ++ p4)))) := ⟨p, p' ++ (p'' ++ (p3 ++ p4)), h, trodAll_mk4 h' h'' h3 h4, rfl⟩
end
end Go.Proofs.YtecpldnjpapalaaDoor
