/-
  The document's own comparison of patterns: the walk.
-/
import Derived.Test.YtecpldnjpapalaaDoorPSame
import Derived.Test.YtecpldnjpapalaaDoorGPure
import Derived.Test.YtecpldnjpapalaaDoorGNode
import Derived.Deep.RegionHeld3
import Derived.StillTailTactics
namespace Go.Proofs.YtecpldnjpapalaaDoor
set_option linter.unusedSimpArgs false
set_option linter.unusedVariables false
open Go.RowKit
theorem flat_at {k : Nat} : ∀ {L : List (List Value)} {i j : Nat} {cs : List Value} {u : Value}, (∀ c ∈ L, c.length = k) → L[i]? = some cs → cs[j]? = some u → L.flatten[i * k + j]? = some u
  | c :: L, 0, j, cs, u, hL, hi, hj => by
    obtain rfl := Option.some.inj hi
    rw [List.flatten_cons, Nat.zero_mul, Nat.zero_add, List.getElem?_append_left (List.getElem?_eq_some_iff.1 hj).1]
    exact hj
  | c :: L, i + 1, j, cs, u, hL, hi, hj => by
    have hc := hL c (by simp)
    rw [List.flatten_cons, Nat.add_mul, Nat.one_mul, List.getElem?_append_right (by omega), show i * k + k + j - c.length = i * k + j by omega]
    exact flat_at (fun d hd => hL d (by simp [hd])) (by simpa using hi) hj
  | [], _, _, _, _, _, hi, _ => by simp at hi
theorem isPs_get {w : World} {N : Nat → Prop} : ∀ {L : List (List Value)} {l : List Nd} {i : Nat} {a : Nd}, IsPs w N L l → l[i]? = some a → ∃ cs, L[i]? = some cs ∧ IsP w N cs a
  | cs :: L, e :: l, 0, a, h, hi => by
    obtain rfl := Option.some.inj hi
    exact ⟨cs, rfl, h.1⟩
  | cs :: L, e :: l, i + 1, a, h, hi => by
    obtain ⟨c, h1, h2⟩ := isPs_get (L := L) (l := l) (i := i) h.2 (by simpa using hi)
    exact ⟨c, by simpa using h1, h2⟩
  | [], _ :: _, _, _, h, _ => h.elim
  | [], [], _, _, _, hi => by simp at hi
  | _ :: _, [], _, _, _, hi => by simp at hi
theorem isPs_all {w : World} {N : Nat → Prop} : ∀ {L : List (List Value)} {l : List Nd}, IsPs w N L l → ∀ c ∈ L, c.length = 7
  | cs :: L, e :: l, h, c, hc => by
    rcases List.mem_cons.1 hc with rfl | hc
    · exact h.1.len
    · exact isPs_all h.2 c hc
  | [], _, _, _, hc => by cases hc
  | _ :: _, [], h, _, _ => h.elim
/-- A pattern in memory, as it is read. -/
theorem IsP.look {w : World} {N : Nat → Prop} {x : Nd} {s : Sl} (h : IsP w N (paL x s) x) : x.arms = [] ∧ RowIn w N 9 1 (.slice s.la x.hd.labels.length s.lc) x.hd.labels.length (strCells x.hd.labels) ∧ x.args.length ≤ s.ac ∧ x.args.length ≤ 9223372036854775807 ∧ ∀ (i : Nat) (a : Nd), x.args[i]? = some a → ∃ g o t, s.aa = some ⟨g, o, none⟩ ∧ g < w.heap.size ∧ IsP w N (paL a t) a ∧ ∀ (j : Nat) (u : Value), (paL a t)[j]? = some u → w.cell? ⟨g, o + i * 7 + j, none⟩ = some u := by
  cases x with
  | mk hd l m =>
    obtain ⟨h0, vl, va, he, h1, L, ⟨⟨a, c, hv, hc, h2⟩, h3⟩, h4⟩ := h
    have e1 : vl = .slice s.la hd.labels.length s.lc := (Option.some.inj (congrArg (fun l : List Value => l[5]?) he)).symm
    have e2 : va = .slice s.aa l.length s.ac := (Option.some.inj (congrArg (fun l : List Value => l[6]?) he)).symm
    subst e1
    rw [e2] at hv
    obtain ⟨rfl, _, rfl⟩ := Value.slice.inj hv
    refine ⟨h0, h1, hc, h3, fun i a hi => ?_⟩
    rcases h2 with h2 | ⟨g, o, he2, _, hg, hcell⟩
    · have := (List.getElem?_eq_some_iff.1 hi).1
      have h2 : l.length = 0 := h2
      have h5 : i < l.length := this
      omega
    · obtain ⟨cs, k1, k2⟩ := isPs_get h4 hi
      have k3 : ∃ t, cs = paL a t := by
        cases a with
        | mk hb lb mb =>
          obtain ⟨_, ul, ua, rfl, ⟨⟨a1, c1, rfl, _⟩, _⟩, _, ⟨⟨a2, c2, rfl, _⟩, _⟩, _⟩ := k2
          exact ⟨⟨a1, c1, a2, c2, none, 0⟩, rfl⟩
      obtain ⟨t, rfl⟩ := k3
      exact ⟨g, o, t, he2, hg.lt, k2, fun j u hu => by rw [Nat.add_assoc]; exact hcell _ _ (flat_at (isPs_all h4) k1 hu)⟩
theorem paBox_new (w : World) (x : Nd) (s : Sl) : PaBox (w.alloc (.cells #[.int .i64 x.hd.kind, .int .i64 x.hd.pos, .string ⟨x.hd.name.toArray⟩, .int .i64 x.hd.n, .string ⟨x.hd.s.toArray⟩, .slice s.la x.hd.labels.length s.lc, .slice s.aa x.args.length s.ac] 57 (0, 0))) w.heap.size x s := box_at w _ _ rfl
set_option maxRecDepth 100000 in
set_option maxHeartbeats 4000000 in
theorem r_samepat_step (p : Bool) (x y : Nd) (sx sy : Sl) (w : World) (hx : IsP w (fun _ => True) (paL x sx) x) (hy : IsP w (fun _ => True) (paL y sy) y)
    (hrec : ∀ a ∈ x.args, ∀ (b : Nd) (sa sb : Sl) (W : World), IsP W (fun _ => True) (paL a sa) a → IsP W (fun _ => True) (paL b sb) b → Calls Tryd.prog 35 #[paOf a sa, paOf b sb, .bool p] W (YesMade (a.alike p b) W)) :
    Calls Tryd.prog 35 #[paOf x sx, paOf y sy, .bool p] w (YesMade (x.alike p y) w) := by
  have HX := Lib.hid hx
  have HY := Lib.hid hy
  have HREC := Lib.hid hrec
  clear hx hy hrec
  obtain ⟨bb, HBB⟩ : ∃ b, Hid (x.alike p y = b) := ⟨_, Lib.hid rfl⟩
  rw [HBB.out]
  unfold paOf
  go_enter Tryd.func35, Tryd.ntmps35
  go_upto_region 1 with fail
  obtain ⟨W0, hW0⟩ : ∃ W, (w.alloc (.cells #[.int .i64 x.hd.kind, .int .i64 x.hd.pos, .string ⟨x.hd.name.toArray⟩, .int .i64 x.hd.n, .string ⟨x.hd.s.toArray⟩, .slice sx.la x.hd.labels.length sx.lc, .slice sx.aa x.args.length sx.ac] 57 (0, 0))).alloc (.cells #[.int .i64 y.hd.kind, .int .i64 y.hd.pos, .string ⟨y.hd.name.toArray⟩, .int .i64 y.hd.n, .string ⟨y.hd.s.toArray⟩, .slice sy.la y.hd.labels.length sy.lc, .slice sy.aa y.args.length sy.ac] 57 (0, 0)) = W := ⟨_, rfl⟩
  have HB0 : Hid (Below w.heap.size w W0) := Lib.hid (by rw [← hW0]; exact below_two _ _)
  have HPX : Hid (PaBox W0 w.heap.size x sx) := Lib.hid (by rw [← hW0]; exact ((below_one' _).block _ (box_lt (paBox_new w x sx))).trans (paBox_new w x sx))
  have HPY : Hid (PaBox W0 (w.heap.size + 1) y sy) := Lib.hid (by rw [← hW0]; exact box_at _ _ _ (by rw [World.size_alloc]))
  rw [hW0]
  clear hW0
  replace HX := Lib.hid (HX.out.below HB0.out)
  replace HY := Lib.hid (HY.out.below HB0.out)
  generalize hbx : w.heap.size = bx at HPX HPY ⊢
  generalize hby : bx + 1 = by' at HPX HPY ⊢
  clear hbx hby
  obtain ⟨a0, a1, a2, a3, a4, a5, a6, af⟩ := Box7.cells HPX.out
  obtain ⟨b0, b1, b2, b3, b4, b5, b6, bf⟩ := Box7.cells HPY.out
  have al := HPX.out.lt
  have bl := HPY.out.lt
  clear af bf
  have HTX := Lib.hid (fun W (h : Below W0.heap.size W0 W) => r_texts _ _ x.hd.labels y.hd.labels _ _ W (HX.out.below h).look.2.1 (HY.out.below h).look.2.1)
  cases p
  case true =>
    by_cases hkind : x.hd.kind = y.hd.kind
    · skip
      have qkind : (x.hd.kind == y.hd.kind) = true := beq_iff_eq.2 hkind
      have pkind : (x.hd.kind != y.hd.kind) = false := by rw [bne_eq_false_iff_eq]; exact hkind
      by_cases hpos : x.hd.pos = y.hd.pos
      · skip
        have qpos : (x.hd.pos == y.hd.pos) = true := beq_iff_eq.2 hpos
        have ppos : (x.hd.pos != y.hd.pos) = false := by rw [bne_eq_false_iff_eq]; exact hpos
        by_cases hname : x.hd.name = y.hd.name
        · skip
          have qname : (x.hd.name == y.hd.name) = true := beq_iff_eq.2 hname
          have pname : (x.hd.name != y.hd.name) = false := by rw [bne_eq_false_iff_eq]; exact hname
          by_cases hn : x.hd.n = y.hd.n
          · skip
            have qn : (x.hd.n == y.hd.n) = true := beq_iff_eq.2 hn
            have pn : (x.hd.n != y.hd.n) = false := by rw [bne_eq_false_iff_eq]; exact hn
            by_cases hs : x.hd.s = y.hd.s
            · skip
              have qs : (x.hd.s == y.hd.s) = true := beq_iff_eq.2 hs
              have ps : (x.hd.s != y.hd.s) = false := by rw [bne_eq_false_iff_eq]; exact hs
              by_cases hlab : x.hd.labels = y.hd.labels
              · skip
                replace HTX : Hid (∀ W, Below W0.heap.size W0 W → Calls Tryd.prog 34 #[.slice sx.la x.hd.labels.length sx.lc, .slice sy.la y.hd.labels.length sy.lc] W (YesDrawn true W)) := Lib.hid (fun W h => by have h9 := HTX.out W h; rwa [decide_eq_true hlab] at h9)
                by_cases hargs : x.args.length = y.args.length
                · skip
                  have qargs : ((x.args.length : Int) != (y.args.length : Int)) = false := by rw [bne_eq_false_iff_eq]; omega
                  have rargs : (x.args.length != y.args.length) = false := by rw [bne_eq_false_iff_eq]; omega
                  have HHD : Hid (x.hd.alike true y.hd = true) := Lib.hid (by simp [Hd.alike, hkind, hpos, hname, hn, hs, hlab])
                  have HLA : Hid (x.args.length = y.args.length) := Lib.hid hargs
                  clear hkind hpos hname hn hs hlab hargs
                  go_wp2_with fail
                  refine (HTX.out _ (Below.refl _ _)).mono ?_
                  rintro e w' ⟨rfl, nq, rfl⟩
                  go_upto_region 3 with fail
                  clear HTX qkind qpos qname qn qs qargs pkind ppos pname pn ps rargs
                  obtain ⟨W1, hW1⟩ : ∃ W, W0.drewN nq = W := ⟨_, rfl⟩
                  have hb1 : Below W0.heap.size W0 W1 := by rw [← hW1]; exact drewN_below _ _
                  rw [hW1]
                  clear hW1
                  replace HX := Lib.hid (HX.out.below hb1)
                  replace HY := Lib.hid (HY.out.below hb1)
                  replace HPX := Lib.hid (Box7.below HPX.out hb1)
                  replace HPY := Lib.hid (Box7.below HPY.out hb1)
                  replace HB0 := Lib.hid (HB0.out.trans (hb1.mono HB0.out.size))
                  clear hb1 a0 b0 a1 b1 a2 b2 a3 b3 a4 b4 a5 b5 a6 b6 al bl
                  have HZ := Lib.hid (Below.refl W1.heap.size W1)
                  have HG : Hid (∀ i, i < x.args.length → ∃ a b, x.args[i]? = some a ∧ y.args[i]? = some b) := Lib.hid (fun i h => ⟨x.args[i], y.args[i]'(by have := HLA.out; omega), List.getElem?_eq_getElem h, List.getElem?_eq_getElem _⟩)
                  have HLE : Hid (x.args.length ≤ 9223372036854775807) := Lib.hid HX.out.look.2.2.2.1
                  go_wp2_with fail
                  go_loopw [7] (fun vk wr => ∃ k : Nat, k ≤ x.args.length ∧ vk = .int .i64 k ∧ Hid (Below W1.heap.size W1 wr) ∧ Hid (∀ (i : Nat) (a b : Nd), i < k → x.args[i]? = some a → y.args[i]? = some b → a.alike true b = true)) (fun vk _ => x.args.length - (intOf vk).toNat)
                  case atStart => exact ⟨0, Nat.zero_le _, by go_num, HZ, Lib.hid (fun i a b h => absurd h (by omega))⟩
                  case round =>
                    obtain ⟨k, hk, rfl, HV, HL⟩ := hrel
                    clear HZ
                    obtain ⟨a0, a1, a2, a3, a4, a5, a6, af⟩ := Box7.cells (Box7.below HPX.out HV.out)
                    clear af
                    obtain ⟨b0, b1, b2, b3, b4, b5, b6, bf⟩ := Box7.cells (Box7.below HPY.out HV.out)
                    clear bf
                    have al := Box7.lt (Box7.below HPX.out HV.out)
                    have bl := Box7.lt (Box7.below HPY.out HV.out)
                    by_cases hk2 : k < x.args.length
                    · obtain ⟨ca, cb, hca, hcb⟩ := HG.out k hk2
                      have h2 : decide ((k : Int) < (x.args.length : Int)) = true := decide_eq_true (by omega)
                      have h3 : (k : Int) < (x.args.length : Int) := by omega
                      have h4 : (0 : Int) ≤ (k : Int) := by omega
                      have E5 : IntKind.i64.wrap ((k : Int) + 1) = (k : Int) + 1 := by rw [IntKind.wrap_i64]; have := HLE.out; omega
                      have h6 : (k : Int) < (y.args.length : Int) := by have := HLA.out; omega
                      obtain ⟨g1, o1, t1, e1, l1, i1, c1⟩ := (HX.out.below HV.out).look.2.2.2.2 k ca hca
                      obtain ⟨g2, o2, t2, e2, l2, i2, c2⟩ := (HY.out.below HV.out).look.2.2.2.2 k cb hcb
                      rw [e1] at a6
                      rw [e2] at b6
                      have x0 := c1 0 _ rfl
                      have y0 := c2 0 _ rfl
                      have x1 := c1 1 _ rfl
                      have y1 := c2 1 _ rfl
                      have x2 := c1 2 _ rfl
                      have y2 := c2 2 _ rfl
                      have x3 := c1 3 _ rfl
                      have y3 := c2 3 _ rfl
                      have x4 := c1 4 _ rfl
                      have y4 := c2 4 _ rfl
                      have x5 := c1 5 _ rfl
                      have y5 := c2 5 _ rfl
                      have x6 := c1 6 _ rfl
                      have y6 := c2 6 _ rfl
                      rw [Nat.add_zero] at x0 y0
                      have HCALL : Hid (∀ W, Below wr.heap.size wr W → Calls Tryd.prog 35 #[paOf ca t1, paOf cb t2, .bool true] W (YesMade (ca.alike true cb) W)) := Lib.hid (fun W h => HREC.out ca (List.mem_of_getElem? hca) cb t1 t2 W (i1.below h) (i2.below h))
                      have HLN : Hid (ca.alike true cb = true → ∀ (i : Nat) (a b : Nd), i < k + 1 → x.args[i]? = some a → y.args[i]? = some b → a.alike true b = true) := Lib.hid (fun hc i a b hi ha hb => by
                        by_cases h : i < k
                        · exact HL.out i a b h ha hb
                        · obtain rfl : i = k := by omega
                          rw [hca] at ha
                          rw [hcb] at hb
                          obtain rfl := Option.some.inj ha
                          obtain rfl := Option.some.inj hb
                          exact hc)
                      have HNO : Hid (ca.alike true cb = false → bb = false) := Lib.hid (fun hc => by rw [← HBB.out, alike_mk, alikeN_not hca hcb hc]; simp)
                      clear c1 c2 e1 e2 i1 i2 hca hcb HL
                      obtain ⟨rb, hrb⟩ : ∃ rb, ca.alike true cb = rb := ⟨_, rfl⟩
                      rw [hrb] at HCALL HLN HNO
                      clear hrb
                      unfold paOf at HCALL
                      go_upto_region 6 with fail
                      clear h2
                      go_still_tail 11, (by kernel_rfl)
                      change wpList _ _ _ _ _ wr.drew
                      have hdr := drew_below wr
                      have HDR := Lib.hid hdr
                      clear hdr x0 y0 x1 y1 x2 y2 x3 y3 x4 y4 x5 y5 x6 y6 l1 l2 a0 b0 a1 b1 a2 b2 a3 b3 a4 b4 a5 b5 a6 b6 al bl h3 h4 h6
                      generalize wr.drew = w5 at *
                      go_wp2_with fail
                      refine (HCALL.out _ HDR.out).mono ?_
                      rintro e w6 ⟨rfl, hb6⟩
                      have HVN := Lib.hid (HV.out.trans ((HDR.out.trans (hb6.mono HDR.out.size)).mono HV.out.size))
                      clear hb6 HCALL HDR
                      cases rb with
                      | true =>
                        go_wp2_with fail
                        go_roundw
                        case rel => exact ⟨k + 1, by omega, by go_num, HVN, Lib.hid (HLN.out (by simp))⟩
                        case measure => simp [intOf]; omega
                      | false =>
                        go_wp2_with fail
                        go_ret
                        exact ⟨by rw [HNO.out (by simp)]; rfl, HB0.out.trans (HVN.out.mono HB0.out.size)⟩
                    · have h2 : decide ((k : Int) < (x.args.length : Int)) = false := decide_eq_false (by omega)
                      have HN : Hid (bb = true) := Lib.hid (by
                        rw [← HBB.out, alike_mk, HHD.out, alikeN_all HLA.out (fun i a b ha hb => HL.out i a b (by have := (List.getElem?_eq_some_iff.1 ha).1; omega) ha hb), HX.out.look.1, HY.out.look.1]
                        rfl)
                      have HBN := Lib.hid (HB0.out.trans (HV.out.mono HB0.out.size))
                      clear HL HG
                      go_wp2_with fail
                      go_ret
                      exact ⟨by rw [HN.out]; rfl, HBN.out⟩
                · skip
                  have HN : Hid (bb = false) := Lib.hid (by rw [← HBB.out, alike_mk]; rw [alikeN_len hargs]; simp)
                  have qargs : ((x.args.length : Int) != (y.args.length : Int)) = true := by rw [bne_iff_ne]; omega
                  have rargs : (x.args.length != y.args.length) = true := by rw [bne_iff_ne]; omega
                  clear hkind hpos hname hn hs hlab hargs
                  go_wp2_with fail
                  refine (HTX.out _ (Below.refl _ _)).mono ?_
                  rintro e w' ⟨rfl, nq, rfl⟩
                  go_wp2_with fail
                  go_ret
                  exact ⟨by rw [HN.out]; rfl, HB0.out.trans ((drewN_below _ _).mono HB0.out.size)⟩
              · skip
                have HN : Hid (bb = false) := Lib.hid (by rw [← HBB.out, alike_mk]; simp [Hd.alike, hlab])
                replace HTX : Hid (∀ W, Below W0.heap.size W0 W → Calls Tryd.prog 34 #[.slice sx.la x.hd.labels.length sx.lc, .slice sy.la y.hd.labels.length sy.lc] W (YesDrawn false W)) := Lib.hid (fun W h => by have h9 := HTX.out W h; rwa [decide_eq_false hlab] at h9)
                clear hkind hpos hname hn hs hlab
                go_wp2_with fail
                refine (HTX.out _ (Below.refl _ _)).mono ?_
                rintro e w' ⟨rfl, nq, rfl⟩
                go_wp2_with fail
                go_ret
                exact ⟨by rw [HN.out]; rfl, HB0.out.trans ((drewN_below _ _).mono HB0.out.size)⟩
            · skip
              have HN : Hid (bb = false) := Lib.hid (by rw [← HBB.out, alike_mk]; simp [Hd.alike, hs])
              have qs : (x.hd.s == y.hd.s) = false := beq_eq_false_iff_ne.2 hs
              have ps : (x.hd.s != y.hd.s) = true := bne_iff_ne.2 hs
              clear hkind hpos hname hn hs
              go_wp2_with fail
              go_ret
              exact ⟨by rw [HN.out]; rfl, HB0.out⟩
          · skip
            have HN : Hid (bb = false) := Lib.hid (by rw [← HBB.out, alike_mk]; simp [Hd.alike, hn])
            have qn : (x.hd.n == y.hd.n) = false := beq_eq_false_iff_ne.2 hn
            have pn : (x.hd.n != y.hd.n) = true := bne_iff_ne.2 hn
            clear hkind hpos hname hn
            go_wp2_with fail
            go_ret
            exact ⟨by rw [HN.out]; rfl, HB0.out⟩
        · skip
          have HN : Hid (bb = false) := Lib.hid (by rw [← HBB.out, alike_mk]; simp [Hd.alike, hname])
          have qname : (x.hd.name == y.hd.name) = false := beq_eq_false_iff_ne.2 hname
          have pname : (x.hd.name != y.hd.name) = true := bne_iff_ne.2 hname
          clear hkind hpos hname
          go_wp2_with fail
          go_ret
          exact ⟨by rw [HN.out]; rfl, HB0.out⟩
      · skip
        have HN : Hid (bb = false) := Lib.hid (by rw [← HBB.out, alike_mk]; simp [Hd.alike, hpos])
        have qpos : (x.hd.pos == y.hd.pos) = false := beq_eq_false_iff_ne.2 hpos
        have ppos : (x.hd.pos != y.hd.pos) = true := bne_iff_ne.2 hpos
        clear hkind hpos
        go_wp2_with fail
        go_ret
        exact ⟨by rw [HN.out]; rfl, HB0.out⟩
    · skip
      have HN : Hid (bb = false) := Lib.hid (by rw [← HBB.out, alike_mk]; simp [Hd.alike, hkind])
      have qkind : (x.hd.kind == y.hd.kind) = false := beq_eq_false_iff_ne.2 hkind
      have pkind : (x.hd.kind != y.hd.kind) = true := bne_iff_ne.2 hkind
      clear hkind
      go_wp2_with fail
      go_ret
      exact ⟨by rw [HN.out]; rfl, HB0.out⟩
  case false =>
    by_cases hkind : x.hd.kind = y.hd.kind
    · skip
      have qkind : (x.hd.kind == y.hd.kind) = true := beq_iff_eq.2 hkind
      have pkind : (x.hd.kind != y.hd.kind) = false := by rw [bne_eq_false_iff_eq]; exact hkind
      by_cases hname : x.hd.name = y.hd.name
      · skip
        have qname : (x.hd.name == y.hd.name) = true := beq_iff_eq.2 hname
        have pname : (x.hd.name != y.hd.name) = false := by rw [bne_eq_false_iff_eq]; exact hname
        by_cases hn : x.hd.n = y.hd.n
        · skip
          have qn : (x.hd.n == y.hd.n) = true := beq_iff_eq.2 hn
          have pn : (x.hd.n != y.hd.n) = false := by rw [bne_eq_false_iff_eq]; exact hn
          by_cases hs : x.hd.s = y.hd.s
          · skip
            have qs : (x.hd.s == y.hd.s) = true := beq_iff_eq.2 hs
            have ps : (x.hd.s != y.hd.s) = false := by rw [bne_eq_false_iff_eq]; exact hs
            by_cases hlab : x.hd.labels = y.hd.labels
            · skip
              replace HTX : Hid (∀ W, Below W0.heap.size W0 W → Calls Tryd.prog 34 #[.slice sx.la x.hd.labels.length sx.lc, .slice sy.la y.hd.labels.length sy.lc] W (YesDrawn true W)) := Lib.hid (fun W h => by have h9 := HTX.out W h; rwa [decide_eq_true hlab] at h9)
              by_cases hargs : x.args.length = y.args.length
              · skip
                have qargs : ((x.args.length : Int) != (y.args.length : Int)) = false := by rw [bne_eq_false_iff_eq]; omega
                have rargs : (x.args.length != y.args.length) = false := by rw [bne_eq_false_iff_eq]; omega
                have HHD : Hid (x.hd.alike false y.hd = true) := Lib.hid (by simp [Hd.alike, hkind, hname, hn, hs, hlab])
                have HLA : Hid (x.args.length = y.args.length) := Lib.hid hargs
                clear hkind hname hn hs hlab hargs
                go_wp2_with fail
                refine (HTX.out _ (Below.refl _ _)).mono ?_
                rintro e w' ⟨rfl, nq, rfl⟩
                go_upto_region 3 with fail
                clear HTX qkind qname qn qs qargs pkind pname pn ps rargs
                obtain ⟨W1, hW1⟩ : ∃ W, W0.drewN nq = W := ⟨_, rfl⟩
                have hb1 : Below W0.heap.size W0 W1 := by rw [← hW1]; exact drewN_below _ _
                rw [hW1]
                clear hW1
                replace HX := Lib.hid (HX.out.below hb1)
                replace HY := Lib.hid (HY.out.below hb1)
                replace HPX := Lib.hid (Box7.below HPX.out hb1)
                replace HPY := Lib.hid (Box7.below HPY.out hb1)
                replace HB0 := Lib.hid (HB0.out.trans (hb1.mono HB0.out.size))
                clear hb1 a0 b0 a1 b1 a2 b2 a3 b3 a4 b4 a5 b5 a6 b6 al bl
                have HZ := Lib.hid (Below.refl W1.heap.size W1)
                have HG : Hid (∀ i, i < x.args.length → ∃ a b, x.args[i]? = some a ∧ y.args[i]? = some b) := Lib.hid (fun i h => ⟨x.args[i], y.args[i]'(by have := HLA.out; omega), List.getElem?_eq_getElem h, List.getElem?_eq_getElem _⟩)
                have HLE : Hid (x.args.length ≤ 9223372036854775807) := Lib.hid HX.out.look.2.2.2.1
                go_wp2_with fail
                go_loopw [7] (fun vk wr => ∃ k : Nat, k ≤ x.args.length ∧ vk = .int .i64 k ∧ Hid (Below W1.heap.size W1 wr) ∧ Hid (∀ (i : Nat) (a b : Nd), i < k → x.args[i]? = some a → y.args[i]? = some b → a.alike false b = true)) (fun vk _ => x.args.length - (intOf vk).toNat)
                case atStart => exact ⟨0, Nat.zero_le _, by go_num, HZ, Lib.hid (fun i a b h => absurd h (by omega))⟩
                case round =>
                  obtain ⟨k, hk, rfl, HV, HL⟩ := hrel
                  clear HZ
                  obtain ⟨a0, a1, a2, a3, a4, a5, a6, af⟩ := Box7.cells (Box7.below HPX.out HV.out)
                  clear af
                  obtain ⟨b0, b1, b2, b3, b4, b5, b6, bf⟩ := Box7.cells (Box7.below HPY.out HV.out)
                  clear bf
                  have al := Box7.lt (Box7.below HPX.out HV.out)
                  have bl := Box7.lt (Box7.below HPY.out HV.out)
                  by_cases hk2 : k < x.args.length
                  · obtain ⟨ca, cb, hca, hcb⟩ := HG.out k hk2
                    have h2 : decide ((k : Int) < (x.args.length : Int)) = true := decide_eq_true (by omega)
                    have h3 : (k : Int) < (x.args.length : Int) := by omega
                    have h4 : (0 : Int) ≤ (k : Int) := by omega
                    have E5 : IntKind.i64.wrap ((k : Int) + 1) = (k : Int) + 1 := by rw [IntKind.wrap_i64]; have := HLE.out; omega
                    have h6 : (k : Int) < (y.args.length : Int) := by have := HLA.out; omega
                    obtain ⟨g1, o1, t1, e1, l1, i1, c1⟩ := (HX.out.below HV.out).look.2.2.2.2 k ca hca
                    obtain ⟨g2, o2, t2, e2, l2, i2, c2⟩ := (HY.out.below HV.out).look.2.2.2.2 k cb hcb
                    rw [e1] at a6
                    rw [e2] at b6
                    have x0 := c1 0 _ rfl
                    have y0 := c2 0 _ rfl
                    have x1 := c1 1 _ rfl
                    have y1 := c2 1 _ rfl
                    have x2 := c1 2 _ rfl
                    have y2 := c2 2 _ rfl
                    have x3 := c1 3 _ rfl
                    have y3 := c2 3 _ rfl
                    have x4 := c1 4 _ rfl
                    have y4 := c2 4 _ rfl
                    have x5 := c1 5 _ rfl
                    have y5 := c2 5 _ rfl
                    have x6 := c1 6 _ rfl
                    have y6 := c2 6 _ rfl
                    rw [Nat.add_zero] at x0 y0
                    have HCALL : Hid (∀ W, Below wr.heap.size wr W → Calls Tryd.prog 35 #[paOf ca t1, paOf cb t2, .bool false] W (YesMade (ca.alike false cb) W)) := Lib.hid (fun W h => HREC.out ca (List.mem_of_getElem? hca) cb t1 t2 W (i1.below h) (i2.below h))
                    have HLN : Hid (ca.alike false cb = true → ∀ (i : Nat) (a b : Nd), i < k + 1 → x.args[i]? = some a → y.args[i]? = some b → a.alike false b = true) := Lib.hid (fun hc i a b hi ha hb => by
                      by_cases h : i < k
                      · exact HL.out i a b h ha hb
                      · obtain rfl : i = k := by omega
                        rw [hca] at ha
                        rw [hcb] at hb
                        obtain rfl := Option.some.inj ha
                        obtain rfl := Option.some.inj hb
                        exact hc)
                    have HNO : Hid (ca.alike false cb = false → bb = false) := Lib.hid (fun hc => by rw [← HBB.out, alike_mk, alikeN_not hca hcb hc]; simp)
                    clear c1 c2 e1 e2 i1 i2 hca hcb HL
                    obtain ⟨rb, hrb⟩ : ∃ rb, ca.alike false cb = rb := ⟨_, rfl⟩
                    rw [hrb] at HCALL HLN HNO
                    clear hrb
                    unfold paOf at HCALL
                    go_upto_region 6 with fail
                    clear h2
                    go_still_tail 11, (by kernel_rfl)
                    change wpList _ _ _ _ _ wr.drew
                    have hdr := drew_below wr
                    have HDR := Lib.hid hdr
                    clear hdr x0 y0 x1 y1 x2 y2 x3 y3 x4 y4 x5 y5 x6 y6 l1 l2 a0 b0 a1 b1 a2 b2 a3 b3 a4 b4 a5 b5 a6 b6 al bl h3 h4 h6
                    generalize wr.drew = w5 at *
                    go_wp2_with fail
                    refine (HCALL.out _ HDR.out).mono ?_
                    rintro e w6 ⟨rfl, hb6⟩
                    have HVN := Lib.hid (HV.out.trans ((HDR.out.trans (hb6.mono HDR.out.size)).mono HV.out.size))
                    clear hb6 HCALL HDR
                    cases rb with
                    | true =>
                      go_wp2_with fail
                      go_roundw
                      case rel => exact ⟨k + 1, by omega, by go_num, HVN, Lib.hid (HLN.out (by simp))⟩
                      case measure => simp [intOf]; omega
                    | false =>
                      go_wp2_with fail
                      go_ret
                      exact ⟨by rw [HNO.out (by simp)]; rfl, HB0.out.trans (HVN.out.mono HB0.out.size)⟩
                  · have h2 : decide ((k : Int) < (x.args.length : Int)) = false := decide_eq_false (by omega)
                    have HN : Hid (bb = true) := Lib.hid (by
                      rw [← HBB.out, alike_mk, HHD.out, alikeN_all HLA.out (fun i a b ha hb => HL.out i a b (by have := (List.getElem?_eq_some_iff.1 ha).1; omega) ha hb), HX.out.look.1, HY.out.look.1]
                      rfl)
                    have HBN := Lib.hid (HB0.out.trans (HV.out.mono HB0.out.size))
                    clear HL HG
                    go_wp2_with fail
                    go_ret
                    exact ⟨by rw [HN.out]; rfl, HBN.out⟩
              · skip
                have HN : Hid (bb = false) := Lib.hid (by rw [← HBB.out, alike_mk]; rw [alikeN_len hargs]; simp)
                have qargs : ((x.args.length : Int) != (y.args.length : Int)) = true := by rw [bne_iff_ne]; omega
                have rargs : (x.args.length != y.args.length) = true := by rw [bne_iff_ne]; omega
                clear hkind hname hn hs hlab hargs
                go_wp2_with fail
                refine (HTX.out _ (Below.refl _ _)).mono ?_
                rintro e w' ⟨rfl, nq, rfl⟩
                go_wp2_with fail
                go_ret
                exact ⟨by rw [HN.out]; rfl, HB0.out.trans ((drewN_below _ _).mono HB0.out.size)⟩
            · skip
              have HN : Hid (bb = false) := Lib.hid (by rw [← HBB.out, alike_mk]; simp [Hd.alike, hlab])
              replace HTX : Hid (∀ W, Below W0.heap.size W0 W → Calls Tryd.prog 34 #[.slice sx.la x.hd.labels.length sx.lc, .slice sy.la y.hd.labels.length sy.lc] W (YesDrawn false W)) := Lib.hid (fun W h => by have h9 := HTX.out W h; rwa [decide_eq_false hlab] at h9)
              clear hkind hname hn hs hlab
              go_wp2_with fail
              refine (HTX.out _ (Below.refl _ _)).mono ?_
              rintro e w' ⟨rfl, nq, rfl⟩
              go_wp2_with fail
              go_ret
              exact ⟨by rw [HN.out]; rfl, HB0.out.trans ((drewN_below _ _).mono HB0.out.size)⟩
          · skip
            have HN : Hid (bb = false) := Lib.hid (by rw [← HBB.out, alike_mk]; simp [Hd.alike, hs])
            have qs : (x.hd.s == y.hd.s) = false := beq_eq_false_iff_ne.2 hs
            have ps : (x.hd.s != y.hd.s) = true := bne_iff_ne.2 hs
            clear hkind hname hn hs
            go_wp2_with fail
            go_ret
            exact ⟨by rw [HN.out]; rfl, HB0.out⟩
        · skip
          have HN : Hid (bb = false) := Lib.hid (by rw [← HBB.out, alike_mk]; simp [Hd.alike, hn])
          have qn : (x.hd.n == y.hd.n) = false := beq_eq_false_iff_ne.2 hn
          have pn : (x.hd.n != y.hd.n) = true := bne_iff_ne.2 hn
          clear hkind hname hn
          go_wp2_with fail
          go_ret
          exact ⟨by rw [HN.out]; rfl, HB0.out⟩
      · skip
        have HN : Hid (bb = false) := Lib.hid (by rw [← HBB.out, alike_mk]; simp [Hd.alike, hname])
        have qname : (x.hd.name == y.hd.name) = false := beq_eq_false_iff_ne.2 hname
        have pname : (x.hd.name != y.hd.name) = true := bne_iff_ne.2 hname
        clear hkind hname
        go_wp2_with fail
        go_ret
        exact ⟨by rw [HN.out]; rfl, HB0.out⟩
    · skip
      have HN : Hid (bb = false) := Lib.hid (by rw [← HBB.out, alike_mk]; simp [Hd.alike, hkind])
      have qkind : (x.hd.kind == y.hd.kind) = false := beq_eq_false_iff_ne.2 hkind
      have pkind : (x.hd.kind != y.hd.kind) = true := bne_iff_ne.2 hkind
      clear hkind
      go_wp2_with fail
      go_ret
      exact ⟨by rw [HN.out]; rfl, HB0.out⟩
/-- Two patterns, compared. -/
theorem r_samepat (p : Bool) : ∀ (n : Nat) (x y : Nd) (sx sy : Sl) (w : World), x.size ≤ n → IsP w (fun _ => True) (paL x sx) x → IsP w (fun _ => True) (paL y sy) y → Calls Tryd.prog 35 #[paOf x sx, paOf y sy, .bool p] w (YesMade (x.alike p y) w)
  | 0, x, _, _, _, _, h, _, _ => absurd h (by cases x; show ¬ (1 + _ + _ ≤ 0); omega)
  | n + 1, x, y, sx, sy, w, h, hx, hy => r_samepat_step p x y sx sy w hx hy fun a ha b sa sb W h1 h2 => r_samepat p n a b sa sb W (by have := size_arg ha; omega) h1 h2
end Go.Proofs.YtecpldnjpapalaaDoor
