/-
  THE LAW LineWrites.
-/
import Derived.Test.YthkcjfoihieooaaDoorLineRefCanon
import Derived.Test.YthkcjfoihieooaaDoorLineRefCheck
import Derived.Test.YthkcjfoihieooaaDoorLineReads
set_option linter.unusedVariables false
namespace Go.Proofs.YthkcjfoihieooaaDoor.Li
open Go.Lib Go.RowKit Bu

/-- a row of strings of the call's own, whatever they are -/
def OwnN (B : Nat) (u : Value) (n : Nat) (w : World) : Prop :=
  (u = .slice none 0 0 ∧ n = 0) ∨ ∃ (g cap : Nat) (cur : Array Value), u = .slice (some ⟨g, 0, none⟩) n cap ∧ B ≤ g ∧ w.heap[g]? = some (.cells cur 9 (0, 0)) ∧ n ≤ cap ∧ cap ≤ maxLen ∧ cur.size = cap
theorem Own.any {B : Nat} {u : Value} {ls : List Row} {w : World} (h : Own B u ls w) : OwnN B u ls.length w := by
  rcases h.2 with ⟨h1, h2⟩ | ⟨g, cap, cur, e1, e2, e3, e4, e5, e6, _⟩
  · exact .inl ⟨h1, h2⟩
  · exact .inr ⟨g, cap, cur, e1, e2, e3, e4, e5, by omega⟩
theorem OwnN.store {B n g o : Nat} {u : Value} {w : World} (h : OwnN B u n w) (x : Value) : OwnN B u n (w.setCell ⟨g, o, none⟩ x) := by
  rcases h with h | ⟨g2, cap, cur, e1, e2, e3, e4, e5, e6⟩
  · exact .inl h
  · by_cases hg : g2 = g
    · subst hg
      refine .inr ⟨g2, cap, cur.setIfInBounds o x, e1, e2, ?_, e4, e5, by simpa using e6⟩
      simp [World.setCell, Array.getElem?_modify, e3]
    · refine .inr ⟨g2, cap, cur, e1, e2, ?_, e4, e5, e6⟩
      rw [Below.heap_setCell _ _ _ _ hg]; exact e3
/-- how memory stands while the answer's values are spoilt -/
structure Spo (wK : World) (cb : Nat) (cv : Obj) (pv : Value) (ps : List PD) (us : List Value) (w : World) : Prop where
  len : ps.length = us.length
  below : Below wK.heap.size wK w
  blk : w.heap[cb]? = some cv
  row : w.ownsRow wK.heap.size 40 2 pv ps.length (pcells ps us)
  vals : ∀ (j : Nat) (p : PD) (u : Value), ps[j]? = some p → us[j]? = some u → OwnN wK.heap.size u p.vals.length w
theorem Spo.store {wK w : World} {cb : Nat} {xs : Array Value} {fr : Nat × Nat} {pv : Value} {ps : List PD} {us : List Value} (h : Spo wK cb (.cells xs 25 fr) pv ps us w) {g : Nat} {cur : Array Value} (hg : w.heap[g]? = some (.cells cur 9 (0, 0))) (hB : wK.heap.size ≤ g) (o : Nat) (x : Value) :
    Spo wK cb (.cells xs 25 fr) pv ps us (w.setCell ⟨g, o, none⟩ x) := by
  refine ⟨h.len, h.below.setCell (p := ⟨g, o, none⟩) hB x, ?_, ownsRow_other h.row hg strPrm_ne, fun j p u hp hu => (h.vals j p u hp hu).store x⟩
  refine blk_store h.blk (p := ⟨g, o, none⟩) (fun e => ?_) x
  have e : cb = g := e
  have := h.blk
  rw [e, hg] at this
  injection this with this
  injection this with _ ht
  exact absurd ht (by decide)
theorem Spo.at {wK w : World} {cb : Nat} {cv : Obj} {pv : Value} {ps : List PD} {us : List Value} (h : Spo wK cb cv pv ps us w) {j : Nat} {p : PD} {u : Value} (hp : ps[j]? = some p) (hu : us[j]? = some u) :
    ∃ g c, pv = .slice (some ⟨g, 0, none⟩) ps.length c ∧ w.cell? ⟨g, j * 2 + 1, none⟩ = some u := by
  have hlt := (List.getElem?_eq_some_iff.1 hp).1
  obtain ⟨h4, h5 | ⟨g, cap, cur, e1, e2, e3, e4, e5, e6, e7⟩⟩ := h.row
  · omega
  · refine ⟨g, cap, e1, ?_⟩
    have c2 := (pcells_at ps us j p u h.len hp hu).2
    rw [← e7, List.getElem?_take, if_pos (by omega)] at c2
    rw [Lib.cell_of_heap e3, ← Array.getElem?_toList]; exact c2
theorem PrintP.one {L : LD} {e : Ending} (h : PrintP L e) : ∃ s : ByteArray, e = .returned (.tuple #[.string s, .int .i64 (chk L : Int)]) ∧ (chk L ≠ 0 → s = ⟨#[]⟩) ∧ (chk L = 0 → s.data.toList = pr L) := by
  rcases h with ⟨h1, h2⟩ | ⟨h1, s, h2, h3⟩
  · exact ⟨⟨#[]⟩, h2, fun _ => rfl, fun h => absurd h h1⟩
  · exact ⟨s, by rw [h1]; exact h3, fun h => absurd h1 h, fun _ => h2⟩
theorem chk_le (L : LD) : chk L ≤ 31 := by
  unfold chk
  split
  · omega
  split
  · omega
  split <;> omega

set_option maxHeartbeats 16000000 in
set_option maxRecDepth 100000 in
theorem writes_walk (v z : Value) (L M : LD) (w : World) (hv : LineAt w v L) (hz : LineAt w z M) (hS : SmallL L) (hg : L.group.length ≤ 281474976710656) (hm : L.name.length ≤ 281474976710656) (hnm : ∀ p ∈ L.params, p.name.length ≤ 281474976710656) (hn0 : L.params.length ≤ 1099511627776)
    (hvs : ∀ p ∈ L.params, p.vals.length ≤ 8796093022208) (hpl : (pr L).length ≤ 1099511627776) (hT : Ch.Tabs w) :
    Calls Tryd.prog 4 #[v, z] w fun e w' => e = .returned (.bool true) ∧ Below w.heap.size w w' := by
  have hT' := Lib.hid hT
  have cF := fun W h => refCopy_any v L W h hn0 hvs
  have cN : ∀ (u : Value) (W : World), LineAt W u L → Calls Tryd.prog 18 #[u] W fun e w' => (∃ u, e = .returned u ∧ LOwn W.heap.size u (canL L) w') ∧ Below W.heap.size W w' := fun u W h => canon_any u L W h (by omega) (by omega) (fun p hp => by have := hnm p hp; omega) hn0 hvs
  have cR := fun W h => refCanon_any v L W h hg hm hnm hn0 hvs
  have cK := fun W h => refCheck_any v L W h hS
  have cP := fun (u : Value) W h hT => print_any u L W h hS (by omega) hT
  obtain ⟨a1, a2, a4, A, n, c, rfl, hn, ha4⟩ := hv.box'
  obtain ⟨b1, b2, b4, Bm, nm, cm, rfl, hnn, _⟩ := hz.box'
  obtain ⟨wA, hwA⟩ : ∃ wA, (w.alloc (.cells #[.string a1, .string a2, .slice A n c, .string a4] 25)).alloc (.cells #[.string b1, .string b2, .slice Bm nm cm, .string b4] 25) = wA := ⟨_, rfl⟩
  have hbA : Below w.heap.size w wA := by rw [← hwA]; exact ((Below.refl _ _).alloc (Nat.le_refl _) _).alloc (by simp) _
  have hkA : wA.heap[w.heap.size]? = some (.cells #[.string a1, .string a2, .slice A n c, .string a4] 25 (0, 0)) := by rw [← hwA]; exact blk_alloc (heap_alloc_new w _) _
  have hkM : wA.heap[w.heap.size + 1]? = some (.cells #[.string b1, .string b2, .slice Bm nm cm, .string b4] 25 (0, 0)) := by
    rw [← hwA]
    have := heap_alloc_new (w.alloc (.cells #[.string a1, .string a2, .slice A n c, .string a4] 25)) (.cells #[.string b1, .string b2, .slice Bm nm cm, .string b4] 25)
    simpa using this
  have hvA := hv.kept hbA
  have hzA := hz.kept hbA
  have hn' := Lib.hid hn
  have ha4' := Lib.hid ha4
  have cF' := Lib.hid cF
  have cN' := Lib.hid cN
  have cR' := Lib.hid cR
  have cK' := Lib.hid cK
  have cP' := Lib.hid cP
  have hkA' := Lib.hid hkA
  have hkM' := Lib.hid hkM
  have hS' := Lib.hid hS
  have hvs' := Lib.hid hvs
  clear hT cF cN cR cK cP hv hz hn hnn ha4 hg hm hnm hvs hkA hkM hS
  go_enter Tryd.func4, Tryd.ntmps4
  go_wp2_with fail
  first | go_at_call 8 | skip
  clear hwA
  refine (first_any wA (Ch.tabs_below hT'.out hbA)).mono ?_
  rintro e w1 ⟨rfl, hb1⟩
  have hk1 := blk_below hb1 hkA'.out
  have hB1 := below_then hbA hb1
  have hv1 := hvA.kept hb1
  have hz1 := hzA.kept hb1
  have hkM1 := Lib.hid (blk_below hb1 hkM'.out)
  obtain ⟨k0, k1, k2, k3, _, _, _, _⟩ := res4 hk1
  have hk1' := Lib.hid hk1
  clear hk1 hkA' hkM' hvA hzA hbA hb1
  go_wp2_with fail
  first | go_at_call 17 | skip
  refine (cF'.out w1 hv1).mono ?_
  rintro e w2 ⟨⟨u1, rfl, hu1⟩, hb2⟩
  have ho2 := hu1.at
  obtain ⟨o1, o2, o4, O, no, oc, rfl, hno, ho4⟩ := ho2.box'
  obtain rfl : no = n := by rw [hno, hn'.out]
  obtain ⟨wO, hwO⟩ : ∃ wO, w2.alloc (.cells #[.string o1, .string o2, .slice O no oc, .string o4] 25) = wO := ⟨_, rfl⟩
  have hbO : Below w2.heap.size w2 wO := by rw [← hwO]; exact (Below.refl _ _).alloc (Nat.le_refl _) _
  have hkO : wO.heap[w2.heap.size]? = some (.cells #[.string o1, .string o2, .slice O no oc, .string o4] 25 (0, 0)) := by rw [← hwO]; exact heap_alloc_new w2 _
  have h1O := below_then hb2 hbO
  have hlO := ho2.kept hbO
  have hvO := hv1.kept h1O
  have hzO := hz1.kept h1O
  have hkL := Lib.hid (blk_below h1O hk1'.out)
  have hkM := Lib.hid (blk_below h1O hkM1.out)
  have hBO := below_then hB1 h1O
  have hkO' := Lib.hid hkO
  obtain ⟨x0, x1, x2, x3, _, _, _, _⟩ := res4 hkO
  clear k0 k1 k2 k3 hk1' hkM1 hB1 hv1 hz1 hb2 hu1 ho2 hno ho4 hbO hkO h1O
  go_wp2_with fail
  first | go_at_call 14 | skip
  clear hwO
  refine (cP'.out _ wO hlO (Ch.tabs_below hT'.out hBO)).mono ?_
  rintro e w3 ⟨hPr, hb3⟩
  obtain ⟨s, rfl, hs1, hs2⟩ := hPr.one
  have hq31 := chk_le L
  obtain ⟨q, hq⟩ : ∃ q, chk L = q := ⟨_, rfl⟩
  rw [hq] at hs1 hs2 hq31 cK'
  rw [hq]
  have hkO3 := Lib.hid (blk_below hb3 hkO'.out)
  have hkL3 := Lib.hid (blk_below hb3 hkL.out)
  have hkM3 := Lib.hid (blk_below hb3 hkM.out)
  have hlO3 := hlO.kept hb3
  have hvO3 := hvO.kept hb3
  have hzO3 := hzO.kept hb3
  have hB3 := below_then hBO hb3
  have hs1' := Lib.hid hs1
  have hs2' := Lib.hid hs2
  have hq' := Lib.hid hq
  clear x0 x1 x2 x3 hPr hb3 hkO' hkL hkM hlO hvO hzO hBO hs1 hs2 hq
  obtain ⟨x0, x1, x2, x3, _, _, _, _⟩ := res4 hkO3.out
  go_wp2_with fail
  first | go_at_call 18 | skip
  refine (cN'.out _ w3 hlO3).mono ?_
  rintro e w4 ⟨⟨u4, rfl, hu4⟩, hb4⟩
  have hc4 := hu4.at
  obtain ⟨pc, hpc, hpo⟩ := hu4
  obtain ⟨c1, c2, c4, C, nc, cc, rfl, hnc, _⟩ := hc4.box'
  obtain rfl : nc = no := by rw [hnc, hn'.out]; show (L.params.map canP).length = _; rw [List.length_map]
  obtain rfl : pc = .slice C nc cc := by
    injection hpc with hpc
    simp only [Array.mk.injEq, List.cons.injEq, and_true] at hpc
    exact hpc.2.2.1.symm
  obtain ⟨wC, hwC⟩ : ∃ wC, w4.alloc (.cells #[.string c1, .string c2, .slice C nc cc, .string c4] 25) = wC := ⟨_, rfl⟩
  have hbC : Below w4.heap.size w4 wC := by rw [← hwC]; exact (Below.refl _ _).alloc (Nat.le_refl _) _
  have hkC : wC.heap[w4.heap.size]? = some (.cells #[.string c1, .string c2, .slice C nc cc, .string c4] 25 (0, 0)) := by rw [← hwC]; exact heap_alloc_new w4 _
  have h3C := below_then hb4 hbC
  have hlO := hlO3.kept h3C
  have hvO := hvO3.kept h3C
  have hzO := hzO3.kept h3C
  have hcO := hc4.kept hbC
  have hkO := blk_below h3C hkO3.out
  have hkL := blk_below h3C hkL3.out
  have hkM := blk_below h3C hkM3.out
  have hBC := below_then hB3 h3C
  have hSp : ∃ us, Spo w3 w4.heap.size (.cells #[.string c1, .string c2, .slice C nc cc, .string c4] 25 (0, 0)) (.slice C nc cc) (canL L).params us wC := by
    obtain ⟨us, hus, hrow, hvals⟩ := hpo.kept hbC
    exact ⟨us, hus, h3C, hkC, hrow, fun j p u hp hu => (hvals j p u hp hu).any⟩
  obtain ⟨us, hSp⟩ := hSp
  obtain ⟨ob, hob⟩ : ∃ ob, w2.heap.size = ob := ⟨_, rfl⟩
  obtain ⟨cb, hcb⟩ : ∃ cb, w4.heap.size = cb := ⟨_, rfl⟩
  rw [hob] at hkO hkO3
  rw [hcb] at hkC hSp
  have hob3 : ob < w3.heap.size := (Array.getElem?_eq_some_iff.1 hkO3.out).1
  have hr3 : w.heap.size < w3.heap.size := (Array.getElem?_eq_some_iff.1 hkL3.out).1
  obtain ⟨y0, y1, y2, y3, _, _, _, _⟩ := res4 hkO
  obtain ⟨k0, k1, k2, k3, _, _, _, _⟩ := res4 hkL
  obtain ⟨m0, m1, m2, m3, _, _, _, _⟩ := res4 hkM
  obtain ⟨d0, d1, d2, d3, _, _, _, _⟩ := res4 hkC
  have hzo : ob < wC.heap.size := (Array.getElem?_eq_some_iff.1 hkO).1
  have hzl : w.heap.size < wC.heap.size := (Array.getElem?_eq_some_iff.1 hkL).1
  have hzm : w.heap.size + 1 < wC.heap.size := (Array.getElem?_eq_some_iff.1 hkM).1
  have hzc : cb < wC.heap.size := (Array.getElem?_eq_some_iff.1 hkC).1
  obtain ⟨D, hD⟩ : ∃ D : Bool, (D = true ↔ L = M) := by
    by_cases h : L = M
    · exact ⟨true, by simp [h]⟩
    · exact ⟨false, by simp [h]⟩
  have hDD : (D != D) = false := by cases D <;> rfl
  have bool_of : ∀ e, SameP L M e → e = .returned (.bool D) := fun e h => by
    obtain ⟨R, rfl, hR⟩ := h
    have : R = D := by
      cases R <;> cases D
      · rfl
      · exact absurd (hR.2 (hD.1 rfl)) (by decide)
      · exact absurd (hD.2 (hR.1 rfl)) (by decide)
      · rfl
    rw [this]
  have s1 : ∀ W, Below wC.heap.size wC W → Calls Tryd.prog 11 #[.agg #[.string o1, .string o2, .slice O nc oc, .string o4], .agg #[.string a1, .string a2, .slice A nc c, .string a4]] W fun e w' => e = .returned (.bool true) ∧ Below W.heap.size W w' := fun W h => (refSame_any _ _ L L W (hlO.kept h) (hvO.kept h)).mono fun e w' ⟨h1, h2⟩ => ⟨h1.same', h2⟩
  have s2 : ∀ W, Below wC.heap.size wC W → Calls Tryd.prog 19 #[.agg #[.string a1, .string a2, .slice A nc c, .string a4]] W fun e w' => e = .returned (.int .i64 (q : Int)) ∧ Below W.heap.size W w' := fun W h => cK'.out W (hvO.kept h)
  have s3 : ∀ W, Below wC.heap.size wC W → Calls Tryd.prog 20 #[.agg #[.string a1, .string a2, .slice A nc c, .string a4]] W fun e w' => (∃ u, e = .returned u ∧ LineAt w' u (canL L)) ∧ Below W.heap.size W w' := fun W h => (cR'.out W (hvO.kept h)).mono fun e w' ⟨⟨u, h1, h2⟩, h3⟩ => ⟨⟨u, h1, h2.at⟩, h3⟩
  have s4 : ∀ (u : Value) W, LineAt W u (canL L) → Below wC.heap.size wC W → Calls Tryd.prog 11 #[.agg #[.string c1, .string c2, .slice C nc cc, .string c4], u] W fun e w' => e = .returned (.bool true) ∧ Below W.heap.size W w' := fun u W hu h => (refSame_any _ u (canL L) (canL L) W (hcO.kept h) hu).mono fun e w' ⟨h1, h2⟩ => ⟨h1.same', h2⟩
  have s5 : ∀ W, Below wC.heap.size wC W → Calls Tryd.prog 16 #[.agg #[.string a1, .string a2, .slice A nc c, .string a4], .agg #[.string b1, .string b2, .slice Bm nm cm, .string b4]] W fun e w' => e = .returned (.bool D) ∧ Below W.heap.size W w' := fun W h => (same_any _ _ L M W (hvO.kept h) (hzO.kept h)).mono fun e w' ⟨h1, h2⟩ => ⟨bool_of e h1, h2⟩
  have s6 : ∀ W, Below wC.heap.size wC W → Calls Tryd.prog 11 #[.agg #[.string a1, .string a2, .slice A nc c, .string a4], .agg #[.string b1, .string b2, .slice Bm nm cm, .string b4]] W fun e w' => e = .returned (.bool D) ∧ Below W.heap.size W w' := fun W h => (refSame_any _ _ L M W (hvO.kept h) (hzO.kept h)).mono fun e w' ⟨h1, h2⟩ => ⟨bool_of e h1, h2⟩
  have hSS : ∀ W, Below wC.heap.size wC W → Below wC.heap.size wC W ∧ (W.cell? ⟨ob, 0, none⟩ = some (.string o1) ∧ W.cell? ⟨ob, 1, none⟩ = some (.string o2) ∧ W.cell? ⟨ob, 2, none⟩ = some (.slice O nc oc) ∧ W.cell? ⟨ob, 3, none⟩ = some (.string o4)) ∧
      (W.cell? ⟨w.heap.size, 0, none⟩ = some (.string a1) ∧ W.cell? ⟨w.heap.size, 1, none⟩ = some (.string a2) ∧ W.cell? ⟨w.heap.size, 2, none⟩ = some (.slice A nc c) ∧ W.cell? ⟨w.heap.size, 3, none⟩ = some (.string a4)) ∧
      (W.cell? ⟨w.heap.size + 1, 0, none⟩ = some (.string b1) ∧ W.cell? ⟨w.heap.size + 1, 1, none⟩ = some (.string b2) ∧ W.cell? ⟨w.heap.size + 1, 2, none⟩ = some (.slice Bm nm cm) ∧ W.cell? ⟨w.heap.size + 1, 3, none⟩ = some (.string b4)) ∧
      (W.cell? ⟨cb, 0, none⟩ = some (.string c1) ∧ W.cell? ⟨cb, 1, none⟩ = some (.string c2) ∧ W.cell? ⟨cb, 2, none⟩ = some (.slice C nc cc) ∧ W.cell? ⟨cb, 3, none⟩ = some (.string c4)) := fun W h =>
    ⟨h, ⟨(Below.cells h ob 0 hzo).trans y0, (Below.cells h ob 1 hzo).trans y1, (Below.cells h ob 2 hzo).trans y2, (Below.cells h ob 3 hzo).trans y3⟩,
      ⟨(Below.cells h _ 0 hzl).trans k0, (Below.cells h _ 1 hzl).trans k1, (Below.cells h _ 2 hzl).trans k2, (Below.cells h _ 3 hzl).trans k3⟩,
      ⟨(Below.cells h _ 0 hzm).trans m0, (Below.cells h _ 1 hzm).trans m1, (Below.cells h _ 2 hzm).trans m2, (Below.cells h _ 3 hzm).trans m3⟩,
      ⟨(Below.cells h cb 0 hzc).trans d0, (Below.cells h cb 1 hzc).trans d1, (Below.cells h cb 2 hzc).trans d2, (Below.cells h cb 3 hzc).trans d3⟩⟩
  have hSpK : ∀ W, Below wC.heap.size wC W → Spo w3 cb (.cells #[.string c1, .string c2, .slice C nc cc, .string c4] 25 (0, 0)) (.slice C nc cc) (canL L).params us W := fun W h => by
    refine ⟨hSp.len, below_then h3C h, blk_below h hSp.blk, ownsRow_kept hSp.row h, fun j p u hp hu => ?_⟩
    rcases hSp.vals j p u hp hu with h0 | ⟨g, cap, cur, e1, e2, e3, e4⟩
    · exact .inl h0
    · exact .inr ⟨g, cap, cur, e1, e2, blk_below h e3, e4⟩
  have hSpK' := Lib.hid hSpK
  have hkO' := Lib.hid hkO3
  have hnc' := Lib.hid hnc
  clear x0 x1 x2 x3 y0 y1 y2 y3 k0 k1 k2 k3 m0 m1 m2 m3 d0 d1 d2 d3 hkC h3C hlO hvO hzO hcO hkO hkL hkM hb4 hc4 hbC hzo hzl hzm hzc hD bool_of hSp hSpK hpo hpc hnc cK' cR' cN' cF'
  go_upto_region 6 with fail
  clear hwC
  try rw [hob]
  try rw [hcb]
  clear hob hcb
  go_cut [49] from 24 to 48 (fun s49 wx => s49 = .bool false ∧ Below wC.heap.size wC wx)
  case first =>
    clear hSpK' hkO' hlO3 hvO3 hzO3 hB3 hs1' hs2' cP'
    go_region_held3 (fun W => Below wC.heap.size wC W ∧ (W.cell? ⟨ob, 0, none⟩ = some (.string o1) ∧ W.cell? ⟨ob, 1, none⟩ = some (.string o2) ∧ W.cell? ⟨ob, 2, none⟩ = some (.slice O nc oc) ∧ W.cell? ⟨ob, 3, none⟩ = some (.string o4)) ∧
      (W.cell? ⟨w.heap.size, 0, none⟩ = some (.string a1) ∧ W.cell? ⟨w.heap.size, 1, none⟩ = some (.string a2) ∧ W.cell? ⟨w.heap.size, 2, none⟩ = some (.slice A nc c) ∧ W.cell? ⟨w.heap.size, 3, none⟩ = some (.string a4)) ∧
      (W.cell? ⟨w.heap.size + 1, 0, none⟩ = some (.string b1) ∧ W.cell? ⟨w.heap.size + 1, 1, none⟩ = some (.string b2) ∧ W.cell? ⟨w.heap.size + 1, 2, none⟩ = some (.slice Bm nm cm) ∧ W.cell? ⟨w.heap.size + 1, 3, none⟩ = some (.string b4)) ∧
      (W.cell? ⟨cb, 0, none⟩ = some (.string c1) ∧ W.cell? ⟨cb, 1, none⟩ = some (.string c2) ∧ W.cell? ⟨cb, 2, none⟩ = some (.slice C nc cc) ∧ W.cell? ⟨cb, 3, none⟩ = some (.string c4)))
      (refine hSS _ ?_ <;> first | exact Below.drew (Below.refl _ _) | exact keep_then (by assumption) (And.left (by assumption)) | assumption)
      (first
        | (go_at_call 11; ((first | (with_reducible refine (s1 _ (And.left (by assumption))).mono ?_) | (with_reducible refine (s6 _ (And.left (by assumption))).mono ?_) | (with_reducible refine (s4 _ _ (by assumption) (And.left (by assumption))).mono ?_)); rintro e wx ⟨rfl, hbx⟩))
        | (go_at_call 19; ((with_reducible refine (s2 _ (And.left (by assumption))).mono ?_); rintro e wx ⟨rfl, hbx⟩))
        | (go_at_call 20; ((with_reducible refine (s3 _ (And.left (by assumption))).mono ?_); rintro e wx ⟨⟨u, rfl, hu⟩, hbx⟩))
        | (go_at_call 16; ((with_reducible refine (s5 _ (And.left (by assumption))).mono ?_); rintro e wx ⟨rfl, hbx⟩)))
    all_goals
      go_wp2_with fail
      go_meet
      case rel => exact ⟨rfl, And.left (by assumption)⟩
  case rest =>
    obtain ⟨rfl, hbW⟩ := hcut
    have hSp := hSpK'.out wc hbW
    obtain ⟨d0, d1, d2, d3, _, _, _, _⟩ := res4 hSp.blk
    clear s1 s2 s3 s4 s5 s6 hSS hSpK' hbW
    have hn1 : nc ≤ 1099511627776 := by rw [hn'.out]; exact hn0
    go_wp2_with fail
    go_loopw [53] (fun s53 wr => ∃ i : Nat, s53 = .int .i64 (i : Int) ∧ i ≤ nc ∧ Spo w3 cb (.cells #[.string c1, .string c2, .slice C nc cc, .string c4] 25 (0, 0)) (.slice C nc cc) (canL L).params us wr) (fun s53 wr => nc - (RowKit.intOf s53).toNat)
    case atStart => exact ⟨0, rfl, Nat.zero_le _, hSp⟩
    case round =>
      clear hSp d0 d1 d2 d3
      obtain ⟨i, rfl, hi, hSp⟩ := hrel
      obtain ⟨d0, d1, d2, d3, _, _, _, _⟩ := res4 hSp.blk
      by_cases hlt : i < nc
      · have hplt : i < (canL L).params.length := by rw [← hnc'.out]; exact hlt
        have hp : (canL L).params[i]? = some ((canL L).params[i]'hplt) := List.getElem?_eq_getElem _
        have hu : us[i]? = some (us[i]'(by rw [← hSp.len]; exact hplt)) := List.getElem?_eq_getElem _
        obtain ⟨P, hP⟩ : ∃ P, (canL L).params[i]'hplt = P := ⟨_, rfl⟩
        obtain ⟨u, hue⟩ : ∃ u, us[i]'(by rw [← hSp.len]; exact hplt) = u := ⟨_, rfl⟩
        rw [hP] at hp
        rw [hue] at hu
        obtain ⟨g, gc, epv, hce⟩ := hSp.at hp hu
        injection epv with e1 e2 e3
        subst e1
        obtain ⟨A2, l, l2, hue2, hl⟩ : ∃ A2 l l2, u = .slice A2 l l2 ∧ l = P.vals.length := by
          rcases hSp.vals i P u hp hu with ⟨h1, h2⟩ | ⟨g3, cap, cur, h1, _⟩
          · exact ⟨none, 0, 0, h1, h2.symm⟩
          · exact ⟨_, _, cap, h1, rfl⟩
        subst hue2
        have hlb : l ≤ 8796093022208 := by
          rcases hSp.vals i P _ hp hu with ⟨_, h2⟩ | ⟨g3, cap, cur, h1, _, _, h4, h5, _⟩
          · rw [hl, h2]; omega
          · rw [hl]
            have hPm : P ∈ (canL L).params := by rw [← hP]; exact List.getElem_mem _
            obtain ⟨q0, hq0, rfl⟩ := List.mem_map.1 hPm
            exact hvs'.out q0 hq0
        have hp' := Lib.hid hp
        have hu' := Lib.hid hu
        have hl' := Lib.hid hl
        have jk : (i : Int) < (nc : Int) := by omega
        have j0 : (0 : Int) ≤ (i : Int) := by omega
        clear hp hu hP hue hl e2 e3 hplt
        go_wp2_with fail
        clear hce d0 d1 d2 d3
        go_loopw [63] (fun s63 wr => ∃ k : Nat, s63 = .int .i64 (k : Int) ∧ k ≤ l ∧ Spo w3 cb (.cells #[.string c1, .string c2, .slice (some ⟨g, 0, none⟩) nc cc, .string c4] 25 (0, 0)) (.slice (some ⟨g, 0, none⟩) nc cc) (canL L).params us wr) (fun s63 wr => l - (RowKit.intOf s63).toNat)
        case atStart => exact ⟨0, rfl, Nat.zero_le _, hSp⟩
        case round =>
          clear hSp
          obtain ⟨k, rfl, hk, hSp⟩ := hrel
          by_cases hkl : k < l
          · obtain ⟨d0, d1, d2, d3, _, _, _, _⟩ := res4 hSp.blk
            obtain ⟨g4, gc4, epv, hce⟩ := hSp.at hp'.out hu'.out
            injection epv with e1 e2 e3
            have e1 := Option.some.inj e1
            injection e1 with e1
            subst e1
            rcases hSp.vals i P _ hp'.out hu'.out with ⟨_, h2⟩ | ⟨g3, cap, cur, h1, h2, h3, h4, h5, h6⟩
            · have := hl'.out; omega
            · injection h1 with f1 f2 f3
              subst f1
              have hks : k < cur.size := by have := hl'.out; omega
              have hfr : wr.frozen? ⟨g3, k, none⟩ = false := Lib.frozen_of_heap h3 k
              have hcl : wr.cell? ⟨g3, k, none⟩ = some (cur[k]'hks) := by rw [Lib.cell_of_heap h3]; exact Array.getElem?_eq_getElem hks
              obtain ⟨y, hy⟩ : ∃ y, cur[k]'hks = y := ⟨_, rfl⟩
              rw [hy] at hcl
              have hst := Lib.hid (hSp.store h3 h2 k (.string ⟨#[115, 112, 111, 105, 108, 116]⟩))
              have jkl : (k : Int) < (l : Int) := by omega
              have jk0 : (0 : Int) ≤ (k : Int) := by omega
              clear hy hSp e2 e3 h2 h3 h4 h5 h6 f2 f3 hks
              go_wp2_with fail
              go_roundw
              case rel => exact ⟨k + 1, by go_num, by omega, hst.out⟩
              case measure => simp [RowKit.intOf]; omega
          · go_wp2_with fail
            go_roundw
            case rel => exact ⟨i + 1, by go_num, by omega, hSp⟩
            case measure => simp [RowKit.intOf]; omega
      · have hbr := hSp.below
        have hkO := blk_below hbr hkO'.out
        have hkL := blk_below hbr hkL3.out
        have hlO := hlO3.kept hbr
        have hvO := hvO3.kept hbr
        have hB := below_then hB3 hbr
        have hzl : w.heap.size < wr.heap.size := (Array.getElem?_eq_some_iff.1 hkL).1
        obtain ⟨y0, y1, y2, y3, _, _, _, _⟩ := res4 hkO
        obtain ⟨k0, k1, k2, k3, _, _, _, _⟩ := res4 hkL
        have hkL4 := Lib.hid hkL
        clear hkO hkL hSp hbr d0 d1 d2 d3
        go_wp2_with fail
        first | go_at_call 11 | skip
        refine (refSame_any _ _ L L wr hlO hvO).mono ?_
        rintro e w7 ⟨hSm, hb7⟩
        obtain rfl := hSm.same'
        have hB7 := below_then hB hb7
        have hvO7 := hvO.kept hb7
        have hkL7 := Lib.hid (blk_below hb7 hkL4.out)
        clear hSm hb7 y0 y1 y2 y3 k0 k1 k2 k3 hlO hvO hkL4 hB hkO'
        by_cases h0 : q = 0
        · have hsd := hs2'.out h0
          have hq0 := hq'.out
          subst h0
          have hG := good_chk hq0
          have hss : s.size ≤ 1099511627776 := by rw [Lib.size_eq, hsd]; exact hpl
          have hsd' := Lib.hid hsd
          have hG' := Lib.hid hG
          clear hsd hq0 hG
          go_wp2_with fail
          first | go_at_call 9 | skip
          refine (parse_any s w7 (Ch.tabs_below hT'.out hB7) hss).mono ?_
          rintro e w8 ⟨hP, hb8⟩
          obtain ⟨N, v3, n3, rfl, hn3, hL3, hc3⟩ := hP.read
          have hpp : CodeR s.data.toList L 0 := .inl ⟨rfl, by rw [hsd'.out]; exact parse_pr L hG'.out⟩
          obtain ⟨rfl, rfl⟩ := hpp.one hc3
          obtain ⟨g3, m3, x3, A3, l3, c3, rfl⟩ := hL3.box
          obtain ⟨wD, hwD⟩ : ∃ wD, w8.alloc (.cells #[.string g3, .string m3, .slice A3 l3 c3, .string x3] 25) = wD := ⟨_, rfl⟩
          have hbD : Below w8.heap.size w8 wD := by rw [← hwD]; exact (Below.refl _ _).alloc (Nat.le_refl _) _
          have hkD : wD.heap[w8.heap.size]? = some (.cells #[.string g3, .string m3, .slice A3 l3 c3, .string x3] 25 (0, 0)) := by rw [← hwD]; exact heap_alloc_new w8 _
          have h7D := below_then hb8 hbD
          have hkL := blk_below h7D hkL7.out
          have hvD := hvO7.kept h7D
          have hxD := hL3.kept hbD
          have hBD := below_then hB7 h7D
          obtain ⟨k0, k1, k2, k3, _, _, _, _⟩ := res4 hkL
          have cR := refPrint_any _ L wD hvD (fun q hq => (hG'.out.params q hq).2.1) (by omega)
          have hkL' := Lib.hid hkL
          have hkD' := Lib.hid hkD
          clear hP hn3 hc3 hpp hb8 hbD hkD h7D hkL hvO7 hL3 hB7 hkL7
          go_wp2_with fail
          first | go_at_call 15 | skip
          clear hwD
          refine cR.mono ?_
          rintro e w9 ⟨⟨p, hp, rfl⟩, hb9⟩
          obtain rfl : s = p := sv_eq hsd'.out hp rfl
          have hkL9 := blk_below hb9 hkL'.out
          have hkD9 := blk_below hb9 hkD'.out
          have hvD9 := hvD.kept hb9
          have hxD9 := hxD.kept hb9
          have hB9 := below_then hBD hb9
          clear k0 k1 k2 k3 cR hp hb9 hkL' hkD' hvD hxD hBD
          obtain ⟨k0, k1, k2, k3, _, _, _, _⟩ := res4 hkL9
          obtain ⟨d0, d1, d2, d3, _, _, _, _⟩ := res4 hkD9
          clear hkL9 hkD9
          go_wp2_with fail
          first | go_at_call 11 | skip
          refine (refSame_any _ _ L L w9 hxD9 hvD9).mono ?_
          rintro e w10 ⟨hSm, hb10⟩
          obtain rfl := hSm.same'
          have hB10 := below_then hB9 hb10
          clear hSm hb10 k0 k1 k2 k3 d0 d1 d2 d3
          go_wp2_with fail
          go_ret
          exact ⟨rfl, hB10⟩
        · obtain rfl := hs1'.out h0
          have dq : ((q : Int) != 0) = true := bne_iff_ne.2 (by omega)
          have dq2 : ((q : Int) == 0) = false := beq_eq_false_iff_ne.2 (by omega)
          clear h0 hs1' hs2' hvO7 hkL7
          go_wp2_with fail
          go_ret
          exact ⟨rfl, hB7⟩
end Go.Proofs.YthkcjfoihieooaaDoor.Li
