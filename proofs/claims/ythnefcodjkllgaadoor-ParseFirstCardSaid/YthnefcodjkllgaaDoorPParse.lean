/-
  The walk of Parse.
-/
import Derived.Test.YthnefcodjkllgaaDoorPDefer
import Derived.Test.YthnefcodjkllgaaDoorPSize
namespace Go.Proofs.YthnefcodjkllgaaDoor
open Go.RowKit
/-- The variables that parsing reads lie ready. -/
structure Ready (w : World) : Prop where
  syms : Syms w
  vars : Vars w
  low : 6 < w.heap.size ∧ 5 < w.heap.size
theorem Ready.below {w w' : World} (h : Ready w) (hb : Below w.heap.size w w') : Ready w' :=
  ⟨h.syms.below hb, h.vars.keep h.low.1 h.low.2 hb.block, Nat.lt_of_lt_of_le h.low.1 hb.size, Nat.lt_of_lt_of_le h.low.2 hb.size⟩
def errV (er q : Int) : Value := .tuple #[exV 0 0 [] 0 [] (.slice none 0 0) (.slice none 0 0) (.slice none 0 0), .int .i64 er, .int .i64 q]
/-- What Parse gives. -/
def Parsed (r : PV) (w : World) (e : Ending) (w' : World) : Prop := Below w.heap.size w w' ∧ match r with
  | .ok x => ∃ s, e = .returned (.tuple #[exOf x s, .int .i64 0, .int .i64 0]) ∧ IsE w' (fun g => w.heap.size ≤ g) (exL x s) x
  | .bad er q => e = .returned (errV er (q : Nat))
theorem toks_ok {l : List UInt8} {X : List Tok} (h : lexGo 0 0 l = .ok X) (hl : l.length ≤ 4096) : ∀ t ∈ X ++ [endT l.length], TokOK t := by
  intro t ht
  rcases List.mem_append.1 ht with hx | hx
  · have h1 := (lexGo_good 0 l X h t hx).1.head
    have h2 := lexGo_small 4096 0 l X hl h t hx
    have h3 := lexGo_pos 0 l X h t hx
    refine ⟨fun hk he => ?_, h2.lo, h2.hi, by omega⟩
    obtain ⟨c, r, h4, _⟩ := h1
    unfold tokText at h4
    rcases hk with hk | hk <;> simp [hk, he] at h4
  · obtain rfl := List.mem_singleton.1 hx
    exact ⟨(fun hk => by rcases hk with hk | hk <;> cases hk), (by show (0 : Int) ≤ 0; omega), (by show (0 : Int) ≤ 4611686018427387903; omega), hl⟩
/-- The cells of the results. -/
theorem lexOut_other {l : List UInt8} {B : Nat} {v : Value} {er : Int} {q : Nat} {w w' : World} (h : LexOut l B v er q w) (hk : ∀ g, B ≤ g → w'.heap[g]? = w.heap[g]?) : LexOut l B v er q w' := by
  rcases h with ⟨h1, h2, h3, X, h4, h5⟩ | h
  · exact .inl ⟨h1, h2, h3, X, h4, h5.keep fun b hx => hk b (World.ownsRow.lt h5 b hx).1⟩
  · exact .inr h
theorem tok_lies {B : Nat} {w : World} {v : Value} {T : List Tok} (h : TokRow B w v T) (hn : T ≠ []) : ∃ g cap, v = .slice (some ⟨g, 0, none⟩) T.length cap ∧ g < w.heap.size ∧ T.length ≤ cap ∧ TokLies w g 0 T := by
  have h0 := h
  rcases h.2 with ⟨_, h1⟩ | ⟨g, cap, cur, rfl, hb, hg, hc, _⟩
  · exact absurd (List.eq_nil_of_length_eq_zero h1) hn
  · refine ⟨g, cap, rfl, box_lt hg, hc, fun i t ht => ?_⟩
    have hi := (List.getElem?_eq_some_iff.1 ht).1
    obtain ⟨k1, k2, k3, k4⟩ := tokCells_at ht
    have hj : ∀ j, j < T.length * 4 → w.cell? ⟨g, j, none⟩ = (tokCells T)[j]? := fun j hj => World.ownsRow.cellAt h0 j hj
    rw [Nat.zero_add]
    exact ⟨(hj _ (by omega)).trans k1, (hj _ (by omega)).trans k2, (hj _ (by omega)).trans k3, (hj _ (by omega)).trans k4⟩
structure Door (w : World) (b0 b1 b2 : Nat) (er q : Int) (W : World) : Prop where
  below : Below w.heap.size w W
  box : ∃ y0 y1 y2 y3 y4 y5 y6 y7, Box8 W b0 43 y0 y1 y2 y3 y4 y5 y6 y7
  errc : W.heap[b1]? = some (.cells #[.int .i64 er] 23 (0, 0))
  atc : W.heap[b2]? = some (.cells #[.int .i64 q] 3 (0, 0))
  low : w.heap.size ≤ b0 ∧ w.heap.size ≤ b1 ∧ w.heap.size ≤ b2
  ne : b0 ≠ b1 ∧ b0 ≠ b2 ∧ b1 ≠ b2
theorem Door.keep {w W W' : World} {b0 b1 b2 : Nat} {er q : Int} (h : Door w b0 b1 b2 er q W) (hb : Below W.heap.size W W') : Door w b0 b1 b2 er q W' := by
  obtain ⟨h1, ⟨y0, y1, y2, y3, y4, y5, y6, y7, h2⟩, h3, h4, h5, h6⟩ := h
  exact ⟨h1.trans (hb.mono h1.size), ⟨y0, y1, y2, y3, y4, y5, y6, y7, h2.below hb⟩, (hb.block _ (box_lt h3)).trans h3, (hb.block _ (box_lt h4)).trans h4, h5, h6⟩
theorem Door.set {w W W9 : World} {b0 b1 b2 : Nat} {er q : Int} (h : Door w b0 b1 b2 er q W) (u v : Int) (he : (W.setCell ⟨b1, 0, none⟩ (.int .i64 u)).setCell ⟨b2, 0, none⟩ (.int .i64 v) = W9) : Door w b0 b1 b2 u v W9 ∧ ∀ g, g ≠ b1 → g ≠ b2 → W9.heap[g]? = W.heap[g]? := by
  subst he
  obtain ⟨h1, ⟨y0, y1, y2, y3, y4, y5, y6, y7, h2⟩, h3, h4, h5, h6⟩ := h
  have hk : ∀ g, g ≠ b1 → g ≠ b2 → ((W.setCell ⟨b1, 0, none⟩ (.int .i64 u)).setCell ⟨b2, 0, none⟩ (.int .i64 v)).heap[g]? = W.heap[g]? := fun g k1 k2 => (Below.heap_setCell _ _ _ _ k2).trans (Below.heap_setCell _ _ _ _ k1)
  refine ⟨⟨(h1.setCell (p := ⟨b1, 0, none⟩) h5.2.1 _).setCell (p := ⟨b2, 0, none⟩) h5.2.2 _, ⟨y0, y1, y2, y3, y4, y5, y6, y7, (hk b0 h6.1 h6.2.1).trans h2⟩, ?_, ?_, h5, h6⟩, hk⟩
  · exact (Below.heap_setCell _ _ _ _ h6.2.2).trans (heap_setOne h3 0 _)
  · exact heap_setOne ((Below.heap_setCell _ _ _ _ (fun e => h6.2.2 e.symm)).trans h4) 0 _
theorem Door.put {w W W9 : World} {b0 b1 b2 : Nat} {er q : Int} (h : Door w b0 b1 b2 er q W) (x : Nd) (s : Sl) (he : set8 W b0 (.int .i64 x.hd.kind) (.int .i64 (x.hd.pos : Nat)) (.string ⟨x.hd.name.toArray⟩) (.int .i64 x.hd.n) (.string ⟨x.hd.s.toArray⟩) (.slice s.la x.hd.labels.length s.lc) (.slice s.aa x.args.length s.ac) (.slice s.ra x.arms.length s.rc) = W9) : Door w b0 b1 b2 er q W9 ∧ ExBox W9 b0 x s ∧ ∀ g, g ≠ b0 → W9.heap[g]? = W.heap[g]? := by
  obtain ⟨h1, ⟨y0, y1, y2, y3, y4, y5, y6, y7, h2⟩, h3, h4, h5, h6⟩ := h
  obtain ⟨k1, k2, k3⟩ := h2.stored h1 h5.1 he
  exact ⟨⟨k2, ⟨_, _, _, _, _, _, _, _, k1⟩, (k3 _ (fun e => h6.1 e.symm)).trans h3, (k3 _ (fun e => h6.2.1 e.symm)).trans h4, h5, h6⟩, k1, k3⟩
theorem parse_results {tmps : Array Value} {W : World} {b0 b1 b2 : Nat} {u0 u1 u2 u3 u4 u5 u6 u7 : Value} {er q : Int} (t0 : tmps[2]?.getD undef = ptrV b0) (t1 : tmps[3]?.getD undef = ptrV b1) (t2 : tmps[4]?.getD undef = ptrV b2) (h0 : Box8 W b0 43 u0 u1 u2 u3 u4 u5 u6 u7) (h1 : W.heap[b1]? = some (.cells #[.int .i64 er] 23 (0, 0))) (h2 : W.heap[b2]? = some (.cells #[.int .i64 q] 3 (0, 0))) :
    (results Tryd.f32 tmps).run Tryd.prog W = .ok (.tuple #[.agg #[u0, u1, u2, u3, u4, u5, u6, u7], .int .i64 er, .int .i64 q]) W := by
  have k1 : W.cell? ⟨b1, 0, none⟩ = some (.int .i64 er) := by rw [Lib.cell_of_heap h1]; rfl
  have k2 : W.cell? ⟨b2, 0, none⟩ = some (.int .i64 q) := by rw [Lib.cell_of_heap h2]; rfl
  obtain ⟨c0, c1, c2, c3, c4, c5, c6, c7, _⟩ := Box8.cells h0
  simp [results, Tryd.results32, Result.andThen, t0, t1, t2, ptrV, asAddr, go_sem, k1, k2, c0, c1, c2, c3, c4, c5, c6, c7]
abbrev doorD (b0 b1 b2 : Nat) : List Deferred := [{ target := .fn (.func 56) #[ptrV b0, ptrV b1, ptrV b2], args := #[] }]
theorem door_bad {w W : World} {b0 b1 b2 : Nat} {er0 q0 er : Int} {q : Nat} (h : Door w b0 b1 b2 er0 q0 W) {tmps : Array Value} (t0 : tmps[2]?.getD undef = ptrV b0) (t1 : tmps[3]?.getD undef = ptrV b1) (t2 : tmps[4]?.getD undef = ptrV b2) :
    bodyPostD Tryd.prog Tryd.f32 (Parsed (.bad er q) w) (Exit.panic [{ v := .iface 93 (.agg #[.int .i64 er, .int .i64 (q : Nat)]), recovered := false }]) { tmps := tmps, defers := doorD b0 b1 b2 } W := by
  obtain ⟨h1, ⟨y0, y1, y2, y3, y4, y5, y6, y7, h2⟩, h3, h4, h5, h6⟩ := h
  refine leaves_cons (f := 56) (args := #[ptrV b0, ptrV b1, ptrV b2]) (by simp) (by simp [go_sem]) ?_
  refine (p_catch b0 b1 b2 er q [] W y0 y1 y2 y3 y4 y5 y6 y7 _ _ h2 h3 h4 h6).mono ?_
  rintro e u' w'' ⟨rfl, rfl, hz, k1, k2, hb⟩
  have hB := hb w.heap.size h5.1 h5.2.1 h5.2.2 h1.size
  exact ⟨_, parse_results t0 t1 t2 hz k1 k2, h1.trans hB, rfl⟩
theorem door_good {w W : World} {b0 b1 b2 : Nat} {x : Nd} {s : Sl} (h : Door w b0 b1 b2 0 0 W) (hx : ExBox W b0 x s) (hi : IsE W (fun g => w.heap.size ≤ g) (exL x s) x) {tmps : Array Value} (t0 : tmps[2]?.getD undef = ptrV b0) (t1 : tmps[3]?.getD undef = ptrV b1) (t2 : tmps[4]?.getD undef = ptrV b2) :
    bodyPostD Tryd.prog Tryd.f32 (Parsed (.ok x) w) Exit.ret { tmps := tmps, defers := doorD b0 b1 b2 } W := by
  refine leaves_cons (f := 56) (args := #[ptrV b0, ptrV b1, ptrV b2]) (by simp) (by simp [go_sem]) ?_
  refine (p_idle _ _ _ W).mono ?_
  rintro e u' w'' ⟨rfl, rfl, rfl⟩
  exact ⟨_, parse_results t0 t1 t2 hx h.errc h.atc, h.below, s, rfl, hi⟩
set_option maxRecDepth 100000 in
set_option maxHeartbeats 4000000 in
theorem p_parse (s : ByteArray) (w : World) (hy : Ready w) : Calls Tryd.prog 32 #[.string s] w (Parsed (ParseV s.data.toList) w) := by
  have HY := Lib.hid hy
  clear hy
  obtain ⟨pv, hpv⟩ : ∃ pv, ParseV s.data.toList = pv := ⟨_, rfl⟩
  rw [hpv]
  have hmf : ∀ (fn : Fn) (first cap : Array Value) (w : World), (Instr.makeFunc fn first cap).run Tryd.prog w = .ok (.func fn first cap) w := fun _ _ _ _ => rfl
  go_enter_defers Tryd.func32, Tryd.ntmps32
  go_wp2_with fail
  obtain ⟨W0, hW0⟩ : ∃ W, ((w.alloc zeroObj).alloc (.cells #[.int .i64 0] 23 (0, 0))).alloc (.cells #[.int .i64 0] 3 (0, 0)) = W := ⟨_, rfl⟩
  have HD : Hid (Door w w.heap.size (w.heap.size + 1) (w.heap.size + 1 + 1) 0 0 W0) := Lib.hid (by
    rw [← hW0]
    have hb1 := below_two (w := w) zeroObj (.cells #[.int .i64 0] 23 (0, 0))
    have hb2 := below_one' (w := (w.alloc zeroObj).alloc (.cells #[.int .i64 0] 23 (0, 0))) (.cells #[.int .i64 0] 3 (0, 0))
    have hb3 := below_two (w := w.alloc zeroObj) (.cells #[.int .i64 0] 23 (0, 0)) (.cells #[.int .i64 0] 3 (0, 0))
    have m1 : ((w.alloc zeroObj).alloc (.cells #[.int .i64 0] 23 (0, 0))).heap[w.heap.size + 1]? = some (.cells #[.int .i64 0] 23 (0, 0)) := box_at _ _ _ (by rw [World.size_alloc])
    exact ⟨hb1.trans (hb2.mono hb1.size), ⟨_, _, _, _, _, _, _, _, (ZeroBox.new w).below hb3⟩, (hb2.block _ (box_lt m1)).trans m1, box_at _ _ _ (by rw [World.size_alloc, World.size_alloc]), by omega, by omega⟩)
  rw [hW0]
  clear hW0
  have HSB : Hid (w.heap.size < W0.heap.size ∧ w.heap.size + 1 < W0.heap.size ∧ w.heap.size + 1 + 1 < W0.heap.size) := Lib.hid ⟨by obtain ⟨_, _, _, _, _, _, _, _, h⟩ := HD.out.box; exact box_lt h, box_lt HD.out.errc, box_lt HD.out.atc⟩
  generalize hb0 : w.heap.size = b0 at HD HSB ⊢
  generalize hb1 : b0 + 1 = b1 at *
  generalize hb2 : b1 + 1 = b2 at *
  clear hb0 hb1 hb2
  refine (lex_out s _ (HY.out.below HD.out.below).syms).mono ?_
  rintro e W1 ⟨v, er, q, rfl, hb, hl⟩
  replace HD := Lib.hid (HD.out.keep hb)
  have HL := Lib.hid hl
  clear hb hl
  have c1 : W1.cell? ⟨b1, 0, none⟩ = some (.int .i64 0) := by rw [Lib.cell_of_heap HD.out.errc]; rfl
  have c2 : W1.cell? ⟨b2, 0, none⟩ = some (.int .i64 0) := by rw [Lib.cell_of_heap HD.out.atc]; rfl
  have f1 : W1.frozen? ⟨b1, 0, none⟩ = false := Lib.frozen_of_heap HD.out.errc 0
  have f2 : W1.frozen? ⟨b2, 0, none⟩ = false := Lib.frozen_of_heap HD.out.atc 0
  have l1 := box_lt HD.out.errc
  have l2 := box_lt HD.out.atc
  have n1 : ¬ b1 = b2 := HD.out.ne.2.2
  have n2 : ¬ b2 = b1 := fun e => n1 e.symm
  go_upto_region 3 with fail
  obtain ⟨W2, hW2⟩ : ∃ W, (W1.setCell ⟨b1, 0, none⟩ (.int .i64 er)).setCell ⟨b2, 0, none⟩ (.int .i64 (q : Nat)) = W := ⟨_, rfl⟩
  have hdk := HD.out.set er (q : Nat) hW2
  replace HL := Lib.hid (lexOut_other HL.out fun g hg => hdk.2 g (by have := HSB.out; omega) (by have := HSB.out; omega))
  replace HD := Lib.hid hdk.1
  rw [hW2]
  clear hW2 hdk c1 c2 f1 f2 l1 l2
  have c1 : W2.cell? ⟨b1, 0, none⟩ = some (.int .i64 er) := by rw [Lib.cell_of_heap HD.out.errc]; rfl
  have c2 : W2.cell? ⟨b2, 0, none⟩ = some (.int .i64 (q : Nat)) := by rw [Lib.cell_of_heap HD.out.atc]; rfl
  have f1 : W2.frozen? ⟨b1, 0, none⟩ = false := Lib.frozen_of_heap HD.out.errc 0
  have f2 : W2.frozen? ⟨b2, 0, none⟩ = false := Lib.frozen_of_heap HD.out.atc 0
  have l1 := box_lt HD.out.errc
  have l2 := box_lt HD.out.atc
  rcases HL.out with ⟨rfl, rfl, h3, X, h4, h5⟩ | ⟨rfl, hbad⟩
  · obtain ⟨g, cap, rfl, hg, hcap, hlies⟩ := tok_lies h5 (by simp)
    have hX := lexGo_len 0 _ X h4
    have HRY := Lib.hid (HY.out.below HD.out.below)
    have HPV : Hid (pv = match tokV (X ++ [endT s.data.toList.length]) with
      | .ok x _ => treeV x
      | .bad R => .bad 21 ((R.head?.map (·.2)).getD 0)
      | .out => .bad 0 0) := Lib.hid (by rw [← hpv]; unfold ParseV; rw [lexV_ok h4 h3]; rfl)
    have hrow := row_of (toks_row h4) s.data.toList.length
    have HLN : Hid ((X ++ [endT s.data.toList.length]).length ≤ 5000) := Lib.hid (by rw [List.length_append, List.length_singleton]; omega)
    have HTX := Lib.hid (p_text (w := W2) (T := X ++ [endT s.data.toList.length]) hg hcap HLN.out hlies hrow (toks_ok h4 h3) HRY.out.vars HRY.out.low)
    have HRUN := Lib.hid (tokV_runs hrow)
    clear hX hrow h3 h4 h5 hg hcap hlies HL HRY
    generalize X ++ [endT s.data.toList.length] = T at *
    clear hpv
    go_wp2_with fail
    refine HTX.out.mono ?_
    clear HTX c1 c2 f1 f2 l1 l2
    cases ht : tokV T with
    | out => exact absurd ht HRUN.out
    | bad R =>
      rw [ht] at HPV
      rintro e W3 ⟨t, S, rfl, rfl, hb⟩
      replace HD := Lib.hid (HD.out.keep hb)
      clear hb ht
      obtain rfl := HPV.out
      unfold faultV
      go_wp2_with fail
      exact door_bad HD.out (by rfl) (by rfl) (by rfl)
    | ok x R =>
      rw [ht] at HPV
      rintro e W3 ⟨s9, rfl, hi, hb⟩
      have HW2 : Hid (b0 < W2.heap.size ∧ b1 < W2.heap.size ∧ b2 < W2.heap.size ∧ w.heap.size ≤ W2.heap.size) := Lib.hid ⟨by obtain ⟨_, _, _, _, _, _, _, _, h⟩ := HD.out.box; exact box_lt h, box_lt HD.out.errc, box_lt HD.out.atc, HD.out.below.size⟩
      have HN : Hid ((x.parts 1).length ≤ 50000) := Lib.hid (by have := tokV_size ht; have := HLN.out; omega)
      replace HD := Lib.hid (HD.out.keep hb)
      have HI := Lib.hid hi
      have HPV2 := HPV
      clear hb ht hi HPV
      obtain ⟨y0, y1, y2, y3, y4, y5, y6, y7, hbx⟩ := HD.out.box
      obtain ⟨x0, x1, x2, x3, x4, x5, x6, x7, xf⟩ := Box8.cells hbx
      have z0 := xf 0
      have z1 := xf 1
      have z2 := xf 2
      have z3 := xf 3
      have z4 := xf 4
      have z5 := xf 5
      have z6 := xf 6
      have z7 := xf 7
      have hxl := hbx.lt
      clear xf hbx
      unfold exOf exV
      go_upto_region 6 with fail
      obtain ⟨W4, hW4⟩ : ∃ W, set8 W3 b0 (.int .i64 x.hd.kind) (.int .i64 (x.hd.pos : Nat)) (.string ⟨x.hd.name.toArray⟩) (.int .i64 x.hd.n) (.string ⟨x.hd.s.toArray⟩) (.slice s9.la x.hd.labels.length s9.lc) (.slice s9.aa x.args.length s9.ac) (.slice s9.ra x.arms.length s9.rc) = W := ⟨_, rfl⟩
      have hdk := HD.out.put x s9 hW4
      unfold set8 at hW4
      rw [hW4]
      replace HI := Lib.hid (HI.out.other (w' := W4) (N' := fun g => W2.heap.size ≤ g) fun g hg => ⟨hg, hdk.2.2 g (by have := HW2.out; omega)⟩)
      replace HD := Lib.hid hdk.1
      have HE := Lib.hid hdk.2.1
      clear hW4 hdk x0 x1 x2 x3 x4 x5 x6 x7 z0 z1 z2 z3 z4 z5 z6 z7 hxl
      obtain ⟨f0, f1, f2, f3, f4, f5, f6, f7, _⟩ := Box8.cells HE.out
      have fl := HE.out.lt
      have HC := p_count x s9 4096 W4 (HI.out.wide fun _ _ => trivial) HN.out (by decide) (by decide)
      unfold exOf exV at HC
      by_cases hN : 4096 < (x.parts 1).length
      · have hc : countV (x.parts 1).length 4096 = 4097 := by unfold countV; rw [if_neg (by decide)]; omega
        rw [hc] at HC
        obtain rfl : pv = .bad 3 0 := by rw [HPV2.out]; unfold treeV; rw [if_pos hN]
        replace HC := Lib.hid HC
        go_wp2_with fail
        refine HC.out.mono ?_
        rintro e W5 ⟨rfl, hb⟩
        replace HD := Lib.hid (HD.out.keep hb)
        clear HC hb hc hN HPV2
        go_wp2_with fail
        exact door_bad HD.out (by rfl) (by rfl) (by rfl)
      · have hc : countV (x.parts 1).length 4096 = ((x.parts 1).length : Nat) := by unfold countV; rw [if_neg (by decide)]; omega
        have hN2 : ¬ (4096 : Int) < ((x.parts 1).length : Nat) := by omega
        rw [hc] at HC
        replace HPV2 : Hid (pv = match deepV 200 x with | some q => .bad 22 q | none => .ok x) := Lib.hid (by rw [HPV2.out]; unfold treeV; rw [if_neg hN]; rfl)
        replace HC := Lib.hid HC
        go_wp2_with fail
        refine HC.out.mono ?_
        rintro e W5 ⟨rfl, hb⟩
        replace HD := Lib.hid (HD.out.keep hb)
        replace HI := Lib.hid (HI.out.below hb)
        replace HE := Lib.hid (HE.out.below hb)
        clear HC hb hc hN f0 f1 f2 f3 f4 f5 f6 f7 fl
        obtain ⟨f0, f1, f2, f3, f4, f5, f6, f7, _⟩ := Box8.cells HE.out
        have fl := HE.out.lt
        have HC := p_deep x s9 200 W5 (HI.out.wide fun _ _ => trivial) HN.out
        unfold exOf exV at HC
        cases hdv : deepV 200 x with
        | some q =>
          rw [hdv] at HPV2 HC
          obtain rfl := HPV2.out
          replace HC := Lib.hid HC
          go_wp2_with fail
          refine HC.out.mono ?_
          rintro e W6 ⟨rfl, hb⟩
          replace HD := Lib.hid (HD.out.keep hb)
          clear HC hb HPV2
          simp only [Option.getD_some, Option.isSome_some]
          go_wp2_with fail
          exact door_bad HD.out (by rfl) (by rfl) (by rfl)
        | none =>
          rw [hdv] at HPV2 HC
          obtain rfl := HPV2.out
          replace HC := Lib.hid HC
          go_wp2_with fail
          refine HC.out.mono ?_
          rintro e W6 ⟨rfl, hb⟩
          replace HD := Lib.hid (HD.out.keep hb)
          replace HI := Lib.hid (HI.out.below hb)
          replace HE := Lib.hid (HE.out.below hb)
          clear HC hb HPV2
          simp only [Option.getD_none, Option.isSome_none]
          go_upto_region 11 with fail
          obtain ⟨x0, x1, x2, x3, x4, x5, x6, x7, xf⟩ := Box8.cells HE.out
          have z0 := xf 0
          have z1 := xf 1
          have z2 := xf 2
          have z3 := xf 3
          have z4 := xf 4
          have z5 := xf 5
          have z6 := xf 6
          have z7 := xf 7
          have hxl := HE.out.lt
          have c1 : W6.cell? ⟨b1, 0, none⟩ = some (.int .i64 0) := by rw [Lib.cell_of_heap HD.out.errc]; rfl
          have c2 : W6.cell? ⟨b2, 0, none⟩ = some (.int .i64 0) := by rw [Lib.cell_of_heap HD.out.atc]; rfl
          have u1 : W6.frozen? ⟨b1, 0, none⟩ = false := Lib.frozen_of_heap HD.out.errc 0
          have u2 : W6.frozen? ⟨b2, 0, none⟩ = false := Lib.frozen_of_heap HD.out.atc 0
          have l1 := box_lt HD.out.errc
          have l2 := box_lt HD.out.atc
          have n3 : ¬ b0 = b1 := HD.out.ne.1
          have n4 : ¬ b0 = b2 := HD.out.ne.2.1
          have n5 : ¬ b1 = b0 := fun e => n3 e.symm
          have n6 : ¬ b2 = b0 := fun e => n4 e.symm
          clear xf f0 f1 f2 f3 f4 f5 f6 f7 fl
          have HFIN : Hid (∀ W9, ((set8 W6 b0 (.int .i64 x.hd.kind) (.int .i64 (x.hd.pos : Nat)) (.string ⟨x.hd.name.toArray⟩) (.int .i64 x.hd.n) (.string ⟨x.hd.s.toArray⟩) (.slice s9.la x.hd.labels.length s9.lc) (.slice s9.aa x.args.length s9.ac) (.slice s9.ra x.arms.length s9.rc)).setCell ⟨b1, 0, none⟩ (.int .i64 0)).setCell ⟨b2, 0, none⟩ (.int .i64 0) = W9 → Door w b0 b1 b2 0 0 W9 ∧ ExBox W9 b0 x s9 ∧ IsE W9 (fun g => w.heap.size ≤ g) (exL x s9) x) := Lib.hid (by
            intro W9 he
            obtain ⟨k1, k2, k3⟩ := HD.out.put x s9 rfl
            obtain ⟨k4, k5⟩ := k1.set 0 0 he
            refine ⟨k4, (k5 b0 n3 n4).trans k2, ?_⟩
            exact HI.out.other fun g hg => ⟨by have := HW2.out; omega, (k5 g (by have := HW2.out; omega) (by have := HW2.out; omega)).trans (k3 g (by have := HW2.out; omega))⟩)
          unfold set8 at HFIN
          go_wp2_with fail
          all_goals
            have hf := HFIN.out _ rfl
            refine door_good (s := s9) (tmps := _) hf.1 hf.2.1 hf.2.2 ?_ ?_ ?_ <;> rfl
  · have hne : (er != 0) = true := by
      rw [bne_iff_ne]
      rcases hbad with ⟨rfl, _⟩ | ⟨_, rfl | rfl, _⟩ <;> decide
    obtain rfl : pv = .bad er q := by
      rw [← hpv]
      rcases hbad with ⟨rfl, rfl, h6⟩ | ⟨h6, h7, _, h8⟩
      · unfold ParseV
        rw [lexV_big h6]
      · unfold ParseV LexV
        rw [if_neg (by omega), h8]
    clear hbad HL hpv
    go_wp2_with fail
    refine door_bad (tmps := _) HD.out ?_ ?_ ?_ <;> rfl
end Go.Proofs.YthnefcodjkllgaaDoor
