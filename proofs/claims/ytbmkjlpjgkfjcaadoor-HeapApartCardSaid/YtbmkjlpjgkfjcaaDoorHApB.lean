/-
  HeapApart: what its own steps leave of the row: one more, one less, a word set.
-/
import Derived.Test.YtbmkjlpjgkfjcaaDoorHApA
import Derived.Deep.RegionLaw
namespace Go.Proofs.YtbmkjlpjgkfjcaaDoor
open Go.RowKit
theorem Apt.seen {F : Nat → Prop} {w : World} {q m : Nat} {L : List Ob} {v : Value} {P : List (Ob × Value)} (h : Apt F w q m L v P) :
    ∃ A c, v = .slice A P.length c ∧ ∀ (j : Nat) (p : Ob × Value), P[j]? = some p → ∃ g, A = some ⟨g, 0, none⟩ ∧ g < w.heap.size ∧ ¬ F g ∧ w.cell? ⟨g, j * 3, none⟩ = some (.int .i64 (p.1.at_ : Int)) ∧ w.cell? ⟨g, j * 3 + 1, none⟩ = some (.int .i64 (p.1.kind : Int)) ∧ w.cell? ⟨g, j * 3 + 2, none⟩ = some p.2 ∧
      ∃ Fs cf, p.2 = .slice Fs p.1.fs.length cf ∧ ∀ i, i < p.1.fs.length → ∃ f, Fs = some ⟨f, 0, none⟩ ∧ f < w.heap.size ∧ w.frozen? ⟨f, i, none⟩ = false ∧ w.cell? ⟨f, i, none⟩ = some (.int .u64 (p.1.fs.getD i 0 : Nat)) := by
  obtain ⟨S, K, _, h2, _, _, h5, _⟩ := h
  obtain ⟨A, c, rfl, hv⟩ := h2.row.view
  refine ⟨A, c, rfl, fun j p hp => ?_⟩
  obtain ⟨k1, k2, k3⟩ := obCells_at hp
  obtain ⟨g, rfl, hg, hK, c1⟩ := hv _ _ k1
  obtain ⟨g2, e2, _, _, c2⟩ := hv _ _ k2
  obtain ⟨g3, e3, _, _, c3⟩ := hv _ _ k3
  obtain rfl : g = g2 := by simpa using e2
  obtain rfl : g = g3 := by simpa using e3
  have hf := h2.flds p (List.mem_of_getElem? hp)
  obtain ⟨Fs, cf, hvf, h6⟩ := hf.view
  refine ⟨g, rfl, hg, h5 g hK, c1, c2, c3, Fs, cf, hvf, fun i hi => ?_⟩
  obtain ⟨f, hf1, hf2, _, hf4⟩ := h6 i _ (u64s_at p.1.fs i hi)
  refine ⟨f, hf1, hf2, ?_, hf4⟩
  have h7 := hf.1
  rw [hvf, hf1] at h7
  exact World.ownsRow.frozenAt h7 i
theorem obCells_put {P : List (Ob × Value)} {j : Nat} {o o' : Ob} {v : Value} (h : P[j]? = some (o, v)) (h1 : o'.at_ = o.at_) (h2 : o'.kind = o.kind) : obCells (P.set j (o', v)) = obCells P := by
  induction P generalizing j with
  | nil => cases h
  | cons p P ih =>
    cases j with
    | zero =>
      obtain rfl : p = (o, v) := by simpa using h
      simp [obCells, h1, h2]
    | succ j =>
      simp only [List.set_cons_succ, obCells]
      rw [ih (by simpa using h)]
theorem Apt.push {F : Nat → Prop} {w5 w6 w4 : World} {q m : Nat} {L : List Ob} {v v1 vf : Value} {P : List (Ob × Value)} {o : Ob} {ob : Obj} (h : Apt F w5 q m L v P) (hb : Below w5.heap.size w5 w6)
    (hf : RowIn w6 (fun b => w5.heap.size ≤ b) 30 1 vf o.fs.length (u64s o.fs)) (ho : w4.ownsRow 0 45 3 v1 (P.length + 1) (obCells P ++ [.int .i64 (o.at_ : Int), .int .i64 (o.kind : Int), vf]))
    (hg : (w6.alloc ob).grownBy w4 v.ownBlock) (hat : v1.ownBlock = v.ownBlock ∨ v1.ownBlock = some (w6.alloc ob).heap.size) : AptStep F q m L v1 (P ++ [(o, vf)]) w5 w4 := by
  obtain ⟨S, K, h1, h2, h3, h4, h5, h6, h7, h8⟩ := h
  have z6 := hb.size
  have z4 : w6.heap.size + 1 ≤ w4.heap.size := by have := hg.size; simpa using this
  have hv6 : ∀ b, b < w6.heap.size → v.ownBlock ≠ some b → w4.heap[b]? = w6.heap[b]? := fun b hl hn => by
    rw [hg.block b (by simp; omega) (fun e => hn e.symm), Below.heap_alloc w6 _ b hl]
  have hv5 : ∀ b, b < w5.heap.size → v.ownBlock ≠ some b → w4.heap[b]? = w5.heap[b]? := fun b hl hn => (hv6 b (by omega) hn).trans (hb.block b hl)
  have hty : ∀ b, v.ownBlock = some b → ∃ cur, w5.heap[b]? = some (.cells cur 45 (0, 0)) := own_type h2.row.1
  refine ⟨⟨S, fun b => K b ∨ (w5.heap.size ≤ b ∧ b < w4.heap.size), h1.keep fun b hl hS => hv5 b hl fun hx => h3 b hS (h2.row.2 b hx), ⟨⟨?_, ?_⟩, ?_, ?_⟩, ?_, h4, ?_, fun b hS => by have := h6 b hS; omega, ?_, fun b hF => by have := h8 b hF; omega⟩, ?_⟩
  · have h9 : obCells (P ++ [(o, vf)]) = obCells P ++ [.int .i64 (o.at_ : Int), .int .i64 (o.kind : Int), vf] := by rw [obCells_append]; rfl
    rw [h9, List.length_append]
    exact ho
  · intro b hx
    have hl := (World.ownsRow.lt ho b hx).2
    rcases hat with hh | hh
    · exact .inl (h2.row.2 b (hh.symm.trans hx))
    · rw [hh] at hx
      have := Option.some.inj hx
      simp at this
      exact .inr ⟨by omega, hl⟩
  · intro p hp
    rcases List.mem_append.1 hp with hp | hp
    · refine RowIn.off (h2.flds p hp) fun b cur hc hK => ⟨hv5 b (h7 b hK) fun hx => ?_, .inl hK⟩
      obtain ⟨cur2, hc2⟩ := hty b hx
      exact blocks_ne hc hc2 (by decide) rfl
    · obtain rfl : p = (o, vf) := by simpa using hp
      refine ⟨own_keep hf.1 fun b hx => hv6 b (World.ownsRow.lt hf.1 b hx).2 fun hy => ?_, fun b hx => .inr ⟨hf.2 b hx, by have := (World.ownsRow.lt hf.1 b hx).2; omega⟩⟩
      have h9 : w5.heap.size ≤ b := hf.2 b hx
      have := h7 b (h2.row.2 b hy)
      omega
  · refine List.pairwise_append.2 ⟨h2.sep, by simp, fun p hp p2 hp2 b hx hy => ?_⟩
    obtain rfl : p2 = (o, vf) := by simpa using hp2
    have h9 : w5.heap.size ≤ b := hf.2 b hy
    have := h7 b ((h2.flds p hp).2 b hx)
    omega
  · rintro b hS (hK | ⟨hz, _⟩)
    · exact h3 b hS hK
    · have := h6 b hS; omega
  · rintro b (hK | ⟨hz, _⟩) hF
    · exact h5 b hK hF
    · have := h8 b hF; omega
  · rintro b (hK | ⟨_, hz⟩)
    · have := h7 b hK; omega
    · exact hz
  · have h9 : Turned (fun b => ¬ F b) w6 w4 := by
      have t1 : Turned (fun b => ¬ F b) w6 (w6.alloc ob) := (Turned.refl _ w6).alloc _
      refine ⟨hg.os.trans t1.os, hg.tape.trans t1.tape, hg.output.trans t1.output, Nat.le_trans t1.size hg.size, fun b hl hn => hv6 b hl fun hx => hn (h5 b (h2.row.2 b hx))⟩
    exact (Turned.of_below hb).trans h9
theorem Apt.anew {F : Nat → Prop} {w5 w2 : World} {q m : Nat} {L : List Ob} {v v2 : Value} {P P' : List (Ob × Value)} (h : Apt F w5 q m L v P) (hb : Below w5.heap.size w5 w2)
    (ho : w2.ownsRow 0 45 3 v2 P'.length (obCells P')) (hn : ∀ b, v2.ownBlock = some b → w5.heap.size ≤ b) (hs : P'.Sublist P) : AptStep F q m L v2 P' w5 w2 := by
  obtain ⟨S, K, h1, h2, h3, h4, h5, h6, h7, h8⟩ := h
  have z2 := hb.size
  refine ⟨⟨S, fun b => K b ∨ (w5.heap.size ≤ b ∧ b < w2.heap.size), h1.below hb, ⟨⟨ho, fun b hx => .inr ⟨hn b hx, (World.ownsRow.lt ho b hx).2⟩⟩, fun p hp => ((h2.flds p (hs.subset hp)).keep fun b hl _ => hb.block b hl).mono fun _ hK => .inl hK, List.Pairwise.sublist hs h2.sep⟩, ?_, h4, ?_, fun b hS => by have := h6 b hS; omega, ?_, fun b hF => by have := h8 b hF; omega⟩, Turned.of_below hb⟩
  · rintro b hS (hK | ⟨hz, _⟩)
    · exact h3 b hS hK
    · have := h6 b hS; omega
  · rintro b (hK | ⟨hz, _⟩) hF
    · exact h5 b hK hF
    · have := h8 b hF; omega
  · rintro b (hK | ⟨_, hz⟩)
    · have := h7 b hK; omega
    · exact hz
theorem Apt.poke {F : Nat → Prop} {w : World} {q m j f n cf i x : Nat} {L : List Ob} {v : Value} {P : List (Ob × Value)} {o : Ob} (h : Apt F w q m L v P) (hp : P[j]? = some (o, .slice (some ⟨f, 0, none⟩) n cf)) : AptStep F q m L v (P.set j (o.put i x, .slice (some ⟨f, 0, none⟩) n cf)) w (w.setCell ⟨f, i, none⟩ (.int .u64 (x : Int))) := by
  obtain ⟨S, K, h1, h2, h3, h4, h5, h6, h7, h8⟩ := h
  have hm := List.mem_of_getElem? hp
  have hj := (List.getElem?_eq_some_iff.1 hp).1
  have hfr := h2.flds _ hm
  have hKf : K f := hfr.2 f rfl
  obtain ⟨cf0, hcf⟩ := own_type hfr.1 f rfl
  have hz : (w.setCell ⟨f, i, none⟩ (.int .u64 (x : Int))).heap.size = w.heap.size := by simp [World.setCell]
  have ho : ∀ b, b ≠ f → (w.setCell ⟨f, i, none⟩ (.int .u64 (x : Int))).heap[b]? = w.heap[b]? := fun b hne => heap_setCell_other w _ b _ hne
  have hsep := h2.sep
  refine ⟨⟨S, K, h1.keep fun b _ hS => ho b fun he => h3 b hS (he ▸ hKf), ⟨?_, ?_, ?_⟩, h3, h4, h5, fun b hS => by rw [hz]; exact h6 b hS, fun b hK => by rw [hz]; exact h7 b hK, fun b hF => by rw [hz]; exact h8 b hF⟩, (Turned.refl _ w).setCell ⟨f, i, none⟩ _ (h5 f hKf)⟩
  · rw [obCells_put (o' := o.put i x) hp rfl rfl, List.length_set]
    exact RowIn.off h2.row fun b cur hc hK => ⟨ho b (blocks_ne hc hcf (by decide)), hK⟩
  · intro p hpm
    obtain ⟨k, hk, he⟩ := List.getElem_of_mem hpm
    have hk2 : k < P.length := by rw [List.length_set] at hk; exact hk
    have hpk : (P.set j (o.put i x, .slice (some ⟨f, 0, none⟩) n cf))[k]? = some p := by rw [List.getElem?_eq_getElem hk, he]
    rw [List.getElem?_set] at hpk
    split at hpk
    · rename_i hjk
      subst hjk
      obtain rfl := Option.some.inj hpk
      obtain ⟨A, c, hv, _⟩ := hfr.view
      simp only [Value.slice.injEq] at hv
      have hst := (World.ownsRow.stored (n := o.fs.length) (by have h9 := hfr.1; rw [show n = o.fs.length from hv.2.1] at h9; exact h9) i (.int .u64 (x : Int))).1
      rw [u64s_set] at hst
      refine ⟨?_, hfr.2⟩
      show World.ownsRow _ _ _ _ _ (o.fs.set i x).length (u64s (o.fs.set i x))
      rw [List.length_set, show n = o.fs.length from hv.2.1]
      exact hst
    · rename_i hjk
      have hfp := h2.flds p (List.mem_of_getElem? hpk)
      refine ⟨own_keep hfp.1 fun b hx => ho b fun hbf => ?_, hfp.2⟩
      subst hbf
      rcases Nat.lt_or_gt_of_ne hjk with hlt | hgt
      · exact (List.pairwise_iff_getElem.1 hsep) j k hj hk2 hlt b (by rw [show P[j] = (o, .slice (some ⟨b, 0, none⟩) n cf) from Option.some.inj ((List.getElem?_eq_getElem hj).symm.trans hp)]; rfl) (by rw [show P[k] = p from Option.some.inj ((List.getElem?_eq_getElem hk2).symm.trans hpk)]; exact hx)
      · exact (List.pairwise_iff_getElem.1 hsep) k j hk2 hj hgt b (by rw [show P[k] = p from Option.some.inj ((List.getElem?_eq_getElem hk2).symm.trans hpk)]; exact hx) (by rw [show P[j] = (o, .slice (some ⟨b, 0, none⟩) n cf) from Option.some.inj ((List.getElem?_eq_getElem hj).symm.trans hp)]; rfl)
  · refine List.pairwise_iff_getElem.2 fun a b ha hb hab => ?_
    have hown : ∀ c (hc : c < (P.set j (o.put i x, .slice (some ⟨f, 0, none⟩) n cf)).length) (hc2 : c < P.length), ((P.set j (o.put i x, .slice (some ⟨f, 0, none⟩) n cf))[c]).2 = (P[c]).2 := fun c hc hc2 => by
      rw [List.getElem_set]
      split
      · rename_i hjc
        subst hjc
        rw [show P[j] = (o, .slice (some ⟨f, 0, none⟩) n cf) from Option.some.inj ((List.getElem?_eq_getElem hj).symm.trans hp)]
      · rfl
    have ha2 : a < P.length := by rw [List.length_set] at ha; exact ha
    have hb2 : b < P.length := by rw [List.length_set] at hb; exact hb
    rw [hown a ha ha2, hown b hb hb2]
    exact (List.pairwise_iff_getElem.1 hsep) a b ha2 hb2 hab
/-- append to an owned row, as one step of a region that draws its order; the added row's address being any term. -/
theorem step_append_own {P : Program} {ops : Array Oper} {o : Oper} {a : Act} {w : World} {K : Act → World → Prop} {Q : Exit → Act → World → Prop} {E : Prop} (hgd : o.guard = none) (s x : Operand) (t : TypeId)
    (ho : o.op = .call { callee := .builtin .append, args := #[s, x], argTypes := #[t, t] })
    (base : Nat) (e : TypeId) (i : TypeInfo) (z : Value) (size bytes : Nat) (ht : P.underlying t = some (.slice e)) (hi : P.info? e = some i) (hz : i.zero = some z)
    (hsize : i.size = size) (hby : i.bytes = bytes) (hzs : z.cells.size = size) (hsz : 0 < size)
    (v : Value) (n : Nat) (xs : List Value) (hs : a.eval s = v) (hown : w.ownsRow base e size v n xs)
    (ao : Option Addr) (m c : Nat) (news : List Value) (hx : a.eval x = .slice ao m c) (hl : news.length = m * size) (hnews : ∃ ad, ao = some ad ∧ ∀ j u, news[j]? = some u → w.cell? (ad.add j) = some u) (h1 : ∀ u ∈ news, u.oneCell' = true)
    (h63 : n + m ≤ maxLen) (hbytes : (n + m) * bytes ≤ 140737488355328) (hbase : base ≤ w.heap.size)
    (h : ∀ v' w', w'.ownsRow base e size v' (n + m) (xs ++ news) → w.grownBy w' v.ownBlock → (v' = .slice none 0 0 ↔ v = .slice none 0 0 ∧ m = 0) → (v'.ownBlock = v.ownBlock ∨ v'.ownBlock = some w.heap.size) → K (a.put o.dst v') w') :
    if Region.wanted o (yielded ops a.tmps) = true then Oper.wp P o a w K Q else E := by
  have hw : Region.wanted o (yielded ops a.tmps) = true := by simp [Region.wanted, hgd]
  rw [if_pos hw]
  obtain ⟨ad, rfl, hnews⟩ := hnews
  obtain ⟨v', w', hr, h2, h3, h4, h5⟩ := run_append_own_at (P := P) w base t o.type e i z size bytes ht hi hz hsize hby hzs hsz v n xs hown ad m c news hl hnews h1 h63 hbytes hbase
  unfold Oper.wp execOp
  simp only [ho, resolve, invoke, builtin, Sem.run_bind, Sem.run_pure, Result.andThen_ok, List.map_toArray, List.map_cons, List.map_nil, hs, hx, hr]
  exact h v' w' h2 h3 h4 h5
end Go.Proofs.YtbmkjlpjgkfjcaaDoor
