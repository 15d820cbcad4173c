/-
  THE LAW LineGreat.
-/
import Derived.Test.YthkcjfoihieooaaDoorLineCanon
import Derived.Test.YthkcjfoihieooaaDoorLineFirst
import Derived.Test.YthkcjfoihieooaaDoorLineEq
import Derived.Test.YthkcjfoihieooaaDoorLineParts
set_option linter.unusedVariables false
namespace Go.Proofs.YthkcjfoihieooaaDoor.Li
open Go.Lib Go.RowKit Bu

theorem up_up (l : Row) : Ch.up (Ch.up l) = Ch.up l := by
  unfold Ch.up
  rw [List.map_map]
  congr 1
  funext c
  exact Ch.byte_all (P := fun c => Ch.upB (Ch.upB c) = Ch.upB c) (by decide +kernel) c
theorem canL_canL (L : LD) : canL (canL L) = canL L := by
  unfold canL canP
  simp [up_up]
theorem LineAt.box' {w : World} {v : Value} {L : LD} (h : LineAt w v L) : ∃ (g n x : ByteArray) (A : Option Addr) (l c : Nat), v = .agg #[.string g, .string n, .slice A l c, .string x] ∧ l = L.params.length ∧ x.data.toList = L.value := by
  obtain ⟨pv, rfl, A, b, o, c, rfl, _⟩ := h
  exact ⟨⟨L.group.toArray⟩, ⟨L.name.toArray⟩, ⟨L.value.toArray⟩, A, _, c, rfl, rfl, rfl⟩
theorem SameP.same' {L : LD} {e : Ending} (h : SameP L L e) : e = .returned (.bool true) := by
  obtain ⟨R, rfl, hR⟩ := h
  rw [hR.2 rfl]
theorem LineAt.parts {w : World} {a b p d : Value} {L : LD} (h : LineAt w (.agg #[a, b, p, d]) L) : a = sv L.group ∧ b = sv L.name ∧ d = sv L.value ∧ PrmsAt w p L.params := by
  obtain ⟨pv, e, hp⟩ := h
  injection e with e
  simp only [Array.mk.injEq, List.cons.injEq, and_true] at e
  obtain ⟨rfl, rfl, rfl, rfl⟩ := e
  exact ⟨rfl, rfl, rfl, hp⟩
theorem PrmsAt.row {w : World} {A : Option Addr} {n c : Nat} {ps : List PD} (h : PrmsAt w (.slice A n c) ps) : n = ps.length ∧ n ≤ c ∧ c ≤ maxLen ∧ ∃ b off, (0 < ps.length → A = some ⟨b, off, none⟩ ∧ b < w.heap.size) ∧ ∀ (j : Nat) (p : PD), ps[j]? = some p → w.cell? ⟨b, off + j * 2, none⟩ = some (sv p.name) := by
  obtain ⟨A', b, off, c', e, h1, h2, h3, h4⟩ := h
  injection e with e1 e2 e3
  subst e1; subst e2; subst e3
  exact ⟨rfl, h1, h2, b, off, h3, fun j p hj => (h4 j p hj).1⟩
theorem set4_10 {W : World} {g : Nat} {y0 y1 y2 y3 : Value} {t : TypeId} (hk : W.heap[g]? = some (.cells #[y0, y1, y2, y3] t (0, 0))) (x0 x1 : Value) :
    (W.setCell ⟨g, 1, none⟩ x1).heap[g]? = some (.cells #[y0, x1, y2, y3] t (0, 0)) ∧ ((W.setCell ⟨g, 1, none⟩ x1).setCell ⟨g, 0, none⟩ x0).heap[g]? = some (.cells #[x0, x1, y2, y3] t (0, 0)) := by
  constructor <;> simp [World.setCell, Array.getElem?_modify, hk]
theorem drew_kept {w w' : World} (h : Below w.heap.size w w') : Below w.heap.size w w'.drew := h.drew
theorem keep_then {a W w' : World} (h : Below W.heap.size W w') (k : Below a.heap.size a W) : Below a.heap.size a w' := below_then k h
/-- lines of which the first k have their names in great letters -/
def mixP (ps : List PD) (k : Nat) : List PD := (ps.take k).map canP ++ ps.drop k
theorem mixP_zero (ps : List PD) : mixP ps 0 = ps := by simp [mixP]
theorem mixP_all (ps : List PD) (n : Nat) (h : ps.length ≤ n) : mixP ps n = ps.map canP := by unfold mixP; rw [List.take_of_length_le h, List.drop_of_length_le h, List.append_nil]
theorem mixP_len (ps : List PD) (k : Nat) : (mixP ps k).length = ps.length := by
  unfold mixP
  rw [List.length_append, List.length_map, List.length_take, List.length_drop]; omega
theorem mixP_step (ps : List PD) (k : Nat) (p : PD) (h : ps[k]? = some p) : mixP ps (k + 1) = (mixP ps k).set k (canP p) := by
  obtain ⟨hl, hv⟩ := List.getElem?_eq_some_iff.1 h
  unfold mixP
  have hk : ((ps.take k).map canP).length = k := by rw [List.length_map, List.length_take]; omega
  rw [List.set_append_right _ _ (by omega), hk, Nat.sub_self, List.take_succ_eq_append_getElem hl, hv, List.map_append, List.map_singleton, List.drop_eq_getElem_cons hl, hv]
  simp
theorem mixP_at (ps : List PD) (k : Nat) (p : PD) (h : ps[k]? = some p) : (mixP ps k)[k]? = some p := by
  obtain ⟨hl, hv⟩ := List.getElem?_eq_some_iff.1 h
  unfold mixP
  have hk : ((ps.take k).map canP).length = k := by rw [List.length_map, List.length_take]; omega
  rw [List.getElem?_append_right (by omega), hk, Nat.sub_self, List.drop_eq_getElem_cons hl, hv]
  rfl

/-- a name stored into a row of parameters of the call's own -/
theorem pcells_set : ∀ (ps : List PD) (vs : List Value) (j : Nat) (p : PD) (n : Row), ps.length = vs.length → ps[j]? = some p → pcells (ps.set j ⟨n, p.vals⟩) vs = (pcells ps vs).set (j * 2) (sv n)
  | q :: ps, u :: vs, 0, p, n, h, h1 => by simp [pcells]
  | q :: ps, u :: vs, j + 1, p, n, h, h1 => by
    have := pcells_set ps vs j p n (by simpa using h) (by simpa using h1)
    rw [show (j + 1) * 2 = j * 2 + 1 + 1 by omega]
    simp [pcells, this]
  | [], _, j, p, n, _, h1 => by simp at h1
  | _ :: _, [], _, _, _, h, _ => by simp at h
theorem POwn.setName {B : Nat} {v : Value} {ps : List PD} {w : World} (h : POwn B v ps w) {j : Nat} {p : PD} (hj : ps[j]? = some p) (x : ByteArray) :
    ∃ g c, v = .slice (some ⟨g, 0, none⟩) ps.length c ∧ B ≤ g ∧ g < w.heap.size ∧ (∀ i cs t fr, w.heap[i]? = some (.cells cs t fr) → t ≠ 40 → i ≠ g) ∧ w.frozen? ⟨g, j * 2, none⟩ = false ∧ w.cell? ⟨g, j * 2, none⟩ = some (sv p.name) ∧
      POwn B v (ps.set j ⟨x.data.toList, p.vals⟩) (w.setCell ⟨g, j * 2, none⟩ (.string x)) := by
  obtain ⟨vs, h1, h2, h3⟩ := h
  have hlt := (List.getElem?_eq_some_iff.1 hj).1
  obtain ⟨h4, h5 | ⟨g, cap, cur, e1, e2, e3, e4, e5, e6, e7⟩⟩ := h2
  · omega
  · have hsz : j * 2 < cur.size := by omega
    have hcur : cur[j * 2]? = some (sv p.name) := by
      have hu : vs[j]? = some (vs[j]'(by omega)) := List.getElem?_eq_getElem (by omega)
      have c1 := (pcells_at ps vs j p _ h1 hj hu).1
      rw [← e7, List.getElem?_take, if_pos (by omega)] at c1
      rw [← Array.getElem?_toList]; exact c1
    have hblk : (w.setCell ⟨g, j * 2, none⟩ (.string x)).heap[g]? = some (.cells (cur.set! (j * 2) (.string x)) 40 (0, 0)) := by
      simp [World.setCell, Array.getElem?_modify, e3, Array.setIfInBounds, hsz]
    refine ⟨g, cap, e1, e2, (Array.getElem?_eq_some_iff.1 e3).1, fun i cs t fr h hne e => by rw [e, e3] at h; injection h with h; injection h with _ ht; exact hne ht.symm, Lib.frozen_of_heap e3 _, by rw [Lib.cell_of_heap e3]; exact hcur, vs, by rw [List.length_set]; exact h1, ⟨?_, .inr ⟨g, cap, cur.set! (j * 2) (.string x), ?_, e2, hblk, ?_, e5, ?_, ?_⟩⟩, fun i q u hq hu => ?_⟩
    · rw [pcells_set ps vs j p _ h1 hj, List.length_set, List.length_set]; exact h4
    · rw [List.length_set]; exact e1
    · rw [List.length_set]; exact e4
    · simpa using e6
    · rw [pcells_set ps vs j p _ h1 hj, ← e7, List.length_set, sv_data]
      simp [Array.set!_eq_setIfInBounds, Array.toList_setIfInBounds, List.take_set]
    · have hv : ∃ q0, ps[i]? = some q0 ∧ q0.vals = q.vals := by
        rw [List.getElem?_set] at hq
        split at hq
        · rename_i hji
          subst hji
          first | rw [if_pos hlt] at hq | skip
          obtain rfl := Option.some.inj hq
          exact ⟨p, hj, rfl⟩
        · exact ⟨q, hq, rfl⟩
      obtain ⟨q0, hq0, he⟩ := hv
      rw [← he]
      exact ownsRow_other (h3 i q0 u hq0 hu) e3 strPrm_ne.symm

set_option maxHeartbeats 16000000 in
set_option maxRecDepth 100000 in
theorem great_walk (v : Value) (L : LD) (w : World) (hv : LineAt w v L) (hS : SmallL L) (hg : L.group.length ≤ 4611686018427387904) (hm : L.name.length ≤ 4611686018427387904) (hnm : ∀ p ∈ L.params, p.name.length ≤ 4611686018427387904) (hn0 : L.params.length ≤ 1099511627776) (hvs : ∀ p ∈ L.params, p.vals.length ≤ 8796093022208) (hT : Ch.Tabs w) :
    Calls Tryd.prog 7 #[v] w fun e w' => e = .returned (.bool true) ∧ Below w.heap.size w w' := by
  have hT' := Lib.hid hT
  have cC : ∀ (u : Value) (W : World), LineAt W u L → Calls Tryd.prog 18 #[u] W fun e w' => (∃ u, e = .returned u ∧ LOwn W.heap.size u (canL L) w') ∧ Below W.heap.size W w' := fun u W h => canon_any u L W h hg hm hnm hn0 hvs
  have cD : ∀ (u : Value) (W : World), LineAt W u (canL L) → Calls Tryd.prog 18 #[u] W fun e w' => (∃ u, e = .returned u ∧ LineAt w' u (canL L)) ∧ Below W.heap.size W w' := fun u W h => by
    have := canon_any u (canL L) W h (by show (Ch.up L.group).length ≤ _; rw [Ch.up_length]; exact hg) (by show (Ch.up L.name).length ≤ _; rw [Ch.up_length]; exact hm)
      (fun p hp => by
        obtain ⟨q, hq, rfl⟩ := List.mem_map.1 hp
        show (Ch.up q.name).length ≤ _
        rw [Ch.up_length]; exact hnm q hq) (by show (L.params.map canP).length ≤ _; rw [List.length_map]; exact hn0)
      (fun p hp => by
        obtain ⟨q, hq, rfl⟩ := List.mem_map.1 hp
        exact hvs q hq)
    rw [canL_canL] at this
    exact this.mono fun e w' ⟨⟨u, h1, h2⟩, h3⟩ => ⟨⟨u, h1, h2.at⟩, h3⟩
  have cF := fun W h => refCopy_any v L W h hn0 hvs
  obtain ⟨a1, a2, a4, A, n, c, rfl, hn, ha4⟩ := hv.box'
  obtain ⟨wA, hwA⟩ : ∃ wA, w.alloc (.cells #[.string a1, .string a2, .slice A n c, .string a4] 25) = wA := ⟨_, rfl⟩
  have hbA : Below w.heap.size w wA := by rw [← hwA]; exact (Below.refl _ _).alloc (Nat.le_refl _) _
  have hkA : wA.heap[w.heap.size]? = some (.cells #[.string a1, .string a2, .slice A n c, .string a4] 25 (0, 0)) := by rw [← hwA]; exact heap_alloc_new w _
  have hzA : w.heap.size < wA.heap.size := (Array.getElem?_eq_some_iff.1 hkA).1
  have hvA := hv.kept hbA
  have hn' := Lib.hid hn
  have ha4' := Lib.hid ha4
  have cC' := Lib.hid cC
  have cD' := Lib.hid cD
  have cF' := Lib.hid cF
  have hkA' := Lib.hid hkA
  clear hT cC cD cF hv hn ha4 hg hm hnm hvs hkA hS
  go_enter Tryd.func7, Tryd.ntmps7
  go_wp2_with fail
  first | go_at_call 8 | skip
  refine (first_any wA (Ch.tabs_below hT'.out hbA)).mono ?_
  rintro e w1 ⟨rfl, hb1⟩
  clear hwA
  have hk1 := blk_below hb1 hkA'.out
  obtain ⟨k0, k1, k2, k3, _, _, _, _⟩ := res4 hk1
  have hv1 := hvA.kept hb1
  have hB1 := below_then hbA hb1
  have hk1' := Lib.hid hk1
  clear hk1 hkA' hvA hbA hb1 hzA
  go_wp2_with fail
  first | go_at_call 18 | skip
  refine (cC'.out _ w1 hv1).mono ?_
  rintro e w2 ⟨⟨u1, rfl, hu1⟩, hb2⟩
  obtain ⟨g1, g2, g4, C, m, cc, rfl, hm, hg4⟩ := hu1.at.box'
  have hk2 := blk_below hb2 hk1'.out
  have hv2 := hv1.kept hb2
  have hB2 := below_then hB1 hb2
  have hlc := hu1.at
  clear k0 k1 k2 k3 hk1' hv1 hb2 hu1 hB1
  obtain ⟨wC, hwC⟩ : ∃ wC, w2.alloc (.cells #[.string g1, .string g2, .slice C m cc, .string g4] 25) = wC := ⟨_, rfl⟩
  have hbC : Below w2.heap.size w2 wC := by rw [← hwC]; exact (Below.refl _ _).alloc (Nat.le_refl _) _
  have hkC : wC.heap[w2.heap.size]? = some (.cells #[.string g1, .string g2, .slice C m cc, .string g4] 25 (0, 0)) := by rw [← hwC]; exact heap_alloc_new w2 _
  have hkL := blk_below hbC hk2
  have hvC := hv2.kept hbC
  have hlC := hlc.kept hbC
  have hBC := below_then hB2 hbC
  obtain ⟨k0, k1, k2, k3, _, _, _, _⟩ := res4 hkL
  have hkL' := Lib.hid hkL
  have hkC' := Lib.hid hkC
  have hzl := (Array.getElem?_eq_some_iff.1 hk2).1
  have hm' := Lib.hid hm
  have hg4' := Lib.hid hg4
  clear hkL hkC hk2 hv2 hlc hB2 hbC hm hg4
  go_wp2_with fail
  first | go_at_call 17 | skip
  clear hwC
  refine (cF'.out wC hvC).mono ?_
  rintro e w3 ⟨⟨u3, rfl, hu3⟩, hb3⟩
  obtain ⟨pd, rfl, hpd⟩ := hu3
  obtain ⟨d1, ed1, hd1⟩ := sv_some L.group
  obtain ⟨d2, ed2, hd2⟩ := sv_some L.name
  obtain ⟨d4, ed4, hd4⟩ := sv_some L.value
  obtain ⟨ad, cd, rfl⟩ := hpd.form
  rw [ed1, ed2, ed4]
  rw [← hn'.out] at hpd ⊢
  have hlC3 := hlC.kept hb3
  obtain ⟨wD, hwD⟩ : ∃ wD, w3.alloc (.cells #[.string d1, .string d2, .slice ad n cd, .string d4] 25) = wD := ⟨_, rfl⟩
  have hbD : Below w3.heap.size w3 wD := by rw [← hwD]; exact (Below.refl _ _).alloc (Nat.le_refl _) _
  have hkD : wD.heap[w3.heap.size]? = some (.cells #[.string d1, .string d2, .slice ad n cd, .string d4] 25 (0, 0)) := by rw [← hwD]; exact heap_alloc_new w3 _
  have hbCD : Below wC.heap.size wC wD := below_then hb3 hbD
  have hpD := hpd.kept hbD
  have hdb : wC.heap.size ≤ w3.heap.size := hb3.size
  have hcb : w2.heap.size < wC.heap.size := (Array.getElem?_eq_some_iff.1 hkC'.out).1
  have hrb : w.heap.size < wC.heap.size := (Array.getElem?_eq_some_iff.1 hkL'.out).1
  obtain ⟨x0, x1, x2, x3, _, _, _, _⟩ := res4 (blk_below hbCD hkC'.out)
  obtain ⟨y0, y1, y2, y3, z0, z1, z2, z3⟩ := res4 hkD
  have hd4' := Lib.hid hd4
  have hkD' := Lib.hid hkD
  obtain ⟨cb, hcbe⟩ : ∃ cb, w2.heap.size = cb := ⟨_, rfl⟩
  obtain ⟨db, hdbe⟩ : ∃ db, w3.heap.size = db := ⟨_, rfl⟩
  rw [hcbe] at hkC' hcb x0 x1 x2 x3
  rw [hdbe] at hkD' hdb y0 y1 y2 y3 z0 z1 z2 z3
  have hne1 : ¬ cb = db := by omega
  have hne2 : ¬ db = cb := by omega
  clear k0 k1 k2 k3 ed1 ed2 ed4 hd1 hd2 hd4 hb3 hlC3 hvC hpd hbD hkD hzl
  go_upto_region 5 with fail
  try rw [hcbe]
  try rw [hdbe]
  clear hwD hcbe hdbe
  go_cut [] from 12 to 17 (fun wx => Below wC.heap.size wC wx ∧ Hid (wx.heap[db]? = some (.cells #[.string g1, .string g2, .slice ad n cd, .string d4] 25 (0, 0))) ∧ POwn wC.heap.size (.slice ad n cd) L.params wx)
  case first =>
    have hfin : Below wC.heap.size wC ((wD.setCell ⟨db, 1, none⟩ (.string g2)).setCell ⟨db, 0, none⟩ (.string g1)).drew ∧ Hid (((wD.setCell ⟨db, 1, none⟩ (.string g2)).setCell ⟨db, 0, none⟩ (.string g1)).drew.heap[db]? = some (.cells #[.string g1, .string g2, .slice ad n cd, .string d4] 25 (0, 0))) ∧ POwn wC.heap.size (.slice ad n cd) L.params ((wD.setCell ⟨db, 1, none⟩ (.string g2)).setCell ⟨db, 0, none⟩ (.string g1)).drew := by
      obtain ⟨s1, s2⟩ := set4_10 hkD'.out (.string g1) (.string g2)
      refine ⟨((hbCD.setCell (p := ⟨db, 1, none⟩) hdb _).setCell (p := ⟨db, 0, none⟩) hdb _).drew, Lib.hid s2, ?_⟩
      exact ((hpD.other hkD'.out (by decide) (by decide)).other s1 (by decide) (by decide)).kept (Below.drew (Below.refl _ _))
    have hfin' := Lib.hid hfin
    clear hfin
    go_region
    all_goals
      go_wp2_with fail
      go_meet
    case rel => exact hfin'.out
  case rest =>
    obtain ⟨hbw, hkd, hpo⟩ := hcut
    clear hbCD hpD hkD' x0 x1 x2 x3 y0 y1 y2 y3 z0 z1 z2 z3
    obtain ⟨x0, x1, x2, x3, _, _, _, _⟩ := res4 hkd.out
    have hpo0 := hpo
    rw [← mixP_zero L.params] at hpo
    obtain ⟨ec1, ec2, ec4, hPC⟩ := hlC.parts
    obtain ⟨hmn, hmc, hcm, bc, oc, hbc, hcell⟩ := hPC.row
    have hmn2 : m = n := by rw [hmn, hn'.out]; show (L.params.map canP).length = _; rw [List.length_map]
    subst hmn2
    have hcell' := Lib.hid hcell
    have hbc' := Lib.hid hbc
    have ec1' := Lib.hid ec1
    have ec2' := Lib.hid ec2
    have hmn' := Lib.hid hmn
    have hn63 : m ≤ 1099511627776 := by rw [hn'.out]; exact hn0
    clear hPC hcell hbc ec1 ec2 ec4 hmn hpo0
    go_wp2_with fail
    go_loopw [21] (fun s21 wr => ∃ k : Nat, s21 = .int .i64 (k : Int) ∧ k ≤ m ∧ Below wC.heap.size wC wr ∧ Hid (wr.heap[db]? = some (.cells #[.string g1, .string g2, .slice ad m cd, .string d4] 25 (0, 0))) ∧ POwn wC.heap.size (.slice ad m cd) (mixP L.params k) wr) (fun s21 wr => m - (RowKit.intOf s21).toNat)
    case atStart => exact ⟨0, rfl, Nat.zero_le _, hbw, hkd, hpo⟩
    case round =>
      clear hbw hkd hpo x0 x1 x2 x3
      obtain ⟨k, rfl, hk, hbw, hkd, hpo⟩ := hrel
      obtain ⟨y0, y1, y2, y3, _, _, _, _⟩ := res4 hkd.out
      by_cases hlt : k < m
      · have hv : L.params[k]? = some (L.params[k]'(by have := hn'.out; omega)) := List.getElem?_eq_getElem _
        obtain ⟨V, hV⟩ : ∃ V, L.params[k]'(by have := hn'.out; omega) = V := ⟨_, rfl⟩
        rw [hV] at hv
        obtain ⟨x, ex, hx⟩ := sv_some (canP V).name
        obtain ⟨gd, cd', epd, hgB, hglt, hgne, hfr, hce, hpn⟩ := hpo.setName (mixP_at _ _ _ hv) x
        injection epd with e1 e2 e3
        subst e1; subst e3
        rw [hx] at hpn
        have hpn2 : POwn wC.heap.size (.slice (some ⟨gd, 0, none⟩) m cd) (mixP L.params (k + 1)) (wr.setCell ⟨gd, k * 2, none⟩ (.string x)) := by rw [mixP_step _ _ _ hv]; exact hpn
        have hdg : db ≠ gd := hgne db _ _ _ hkd.out (by decide)
        obtain ⟨rfl, hbcl⟩ := hbc'.out (by rw [← hmn'.out]; omega)
        have hcn := hcell'.out k (canP V) (by show (L.params.map canP)[k]? = _; rw [List.getElem?_map, hv]; rfl)
        rw [ex, ← hbw.cell (p := ⟨bc, oc + k * 2, none⟩) hbcl] at hcn
        have hkc := (hbw.block cb hcb).trans hkC'.out
        obtain ⟨x0, x1, x2, x3, _, _, _, _⟩ := res4 hkc
        have hrel2 : Below wC.heap.size wC (wr.setCell ⟨gd, k * 2, none⟩ (.string x)).drew ∧ Hid ((wr.setCell ⟨gd, k * 2, none⟩ (.string x)).drew.heap[db]? = some (.cells #[.string g1, .string g2, .slice (some ⟨gd, 0, none⟩) m cd, .string d4] 25 (0, 0))) ∧ POwn wC.heap.size (.slice (some ⟨gd, 0, none⟩) m cd) (mixP L.params (k + 1)) (wr.setCell ⟨gd, k * 2, none⟩ (.string x)).drew :=
          ⟨(hbw.setCell (p := ⟨gd, k * 2, none⟩) hgB _).drew, Lib.hid (blk_store hkd.out (p := ⟨gd, k * 2, none⟩) hdg _), hpn2.kept (Below.drew (Below.refl _ _))⟩
        have hrel2' := Lib.hid hrel2
        have jk : (k : Int) < (m : Int) := by omega
        have j0 : (0 : Int) ≤ (k : Int) := by omega
        clear hv hV ex hx hpn hpn2 hkc hrel2 hgne e2 hpo hkd hbw
        go_wp2_with fail
        go_region
        all_goals
          go_wp2_with fail
          go_roundw
        case rel => exact ⟨k + 1, by go_num, by omega, hrel2'.out⟩
        case measure => simp [RowKit.intOf]; omega
      · rw [mixP_all _ _ (by have := hn'.out; omega)] at hpo
        have hvc := hlC.kept hbw
        have hvd : LineAt wr (.agg #[.string g1, .string g2, .slice ad m cd, .string d4]) (canL L) := by
          refine ⟨.slice ad m cd, ?_, hpo.at⟩
          rw [← ec1'.out, ← ec2'.out]
          show _ = Value.agg #[_, _, _, sv L.value]
          rw [← hd4'.out, sv_data]
        obtain rfl : a4 = g4 := sv_eq ha4'.out hg4'.out rfl
        have hkc := (hbw.block cb hcb).trans hkC'.out
        have hkl := (hbw.block w.heap.size hrb).trans hkL'.out
        have cCc : ∀ W, Below wr.heap.size wr W → Calls Tryd.prog 18 #[.agg #[.string g1, .string g2, .slice C m cc, .string a4]] W fun e w' => (∃ u, e = .returned u ∧ LineAt w' u (canL L)) ∧ Below W.heap.size W w' := fun W h => cD'.out _ W (hvc.kept h)
        have cCd : ∀ W, Below wr.heap.size wr W → Calls Tryd.prog 18 #[.agg #[.string g1, .string g2, .slice ad m cd, .string d4]] W fun e w' => (∃ u, e = .returned u ∧ LineAt w' u (canL L)) ∧ Below W.heap.size W w' := fun W h => cD'.out _ W (hvd.kept h)
        have cS1 : ∀ (u : Value) W, LineAt W u (canL L) → Below wr.heap.size wr W → Calls Tryd.prog 16 #[u, .agg #[.string g1, .string g2, .slice C m cc, .string a4]] W fun e w' => e = .returned (.bool true) ∧ Below W.heap.size W w' := fun u W hu h =>
          (same_any u _ (canL L) (canL L) W hu (hvc.kept h)).mono fun e w' ⟨h1, h2⟩ => ⟨h1.same', h2⟩
        have cS2 : ∀ W, Below wr.heap.size wr W → Calls Tryd.prog 16 #[.agg #[.string g1, .string g2, .slice ad m cd, .string d4], .agg #[.string g1, .string g2, .slice C m cc, .string a4]] W fun e w' => e = .returned (.bool true) ∧ Below W.heap.size W w' := fun W h => cS1 _ W (hvd.kept h) h
        obtain ⟨x0, x1, x2, x3, _, _, _, _⟩ := res4 hkc
        obtain ⟨k0, k1, k2, k3, _, _, _, _⟩ := res4 hkl
        have hzc : cb < wr.heap.size := (Array.getElem?_eq_some_iff.1 hkc).1
        have hzd : db < wr.heap.size := (Array.getElem?_eq_some_iff.1 hkd.out).1
        have hzl : w.heap.size < wr.heap.size := (Array.getElem?_eq_some_iff.1 hkl).1
        have hSS : ∀ W, Below wr.heap.size wr W → Below wr.heap.size wr W ∧ (W.cell? ⟨cb, 0, none⟩ = some (.string g1) ∧ W.cell? ⟨cb, 1, none⟩ = some (.string g2) ∧ W.cell? ⟨cb, 2, none⟩ = some (.slice C m cc) ∧ W.cell? ⟨cb, 3, none⟩ = some (.string a4)) ∧
            (W.cell? ⟨db, 0, none⟩ = some (.string g1) ∧ W.cell? ⟨db, 1, none⟩ = some (.string g2) ∧ W.cell? ⟨db, 2, none⟩ = some (.slice ad m cd) ∧ W.cell? ⟨db, 3, none⟩ = some (.string d4)) ∧ W.cell? ⟨w.heap.size, 2, none⟩ = some (.slice A m c) ∧ W.cell? ⟨w.heap.size, 3, none⟩ = some (.string a4) := fun W h =>
          ⟨h, ⟨(Below.cells h cb 0 hzc).trans x0, (Below.cells h cb 1 hzc).trans x1, (Below.cells h cb 2 hzc).trans x2, (Below.cells h cb 3 hzc).trans x3⟩, ⟨(Below.cells h db 0 hzd).trans y0, (Below.cells h db 1 hzd).trans y1, (Below.cells h db 2 hzd).trans y2, (Below.cells h db 3 hzd).trans y3⟩, (Below.cells h w.heap.size 2 hzl).trans k2, (Below.cells h w.heap.size 3 hzl).trans k3⟩
        have hBw : Below w.heap.size w wr := hBC.trans (hbw.mono (by omega))
        clear hpo hvc hvd hkc hkl hkd hbw hlC cD' cC' cF' hzc hzd hzl x0 x1 x2 x3 y0 y1 y2 y3 k0 k1 k2 k3 hne1 hne2
        go_wp2_with fail
        go_region_held3 (fun W => Below wr.heap.size wr W ∧ (W.cell? ⟨cb, 0, none⟩ = some (.string g1) ∧ W.cell? ⟨cb, 1, none⟩ = some (.string g2) ∧ W.cell? ⟨cb, 2, none⟩ = some (.slice C m cc) ∧ W.cell? ⟨cb, 3, none⟩ = some (.string a4)) ∧
            (W.cell? ⟨db, 0, none⟩ = some (.string g1) ∧ W.cell? ⟨db, 1, none⟩ = some (.string g2) ∧ W.cell? ⟨db, 2, none⟩ = some (.slice ad m cd) ∧ W.cell? ⟨db, 3, none⟩ = some (.string d4)) ∧ W.cell? ⟨w.heap.size, 2, none⟩ = some (.slice A m c) ∧ W.cell? ⟨w.heap.size, 3, none⟩ = some (.string a4))
          (refine hSS _ ?_ <;> first | exact Below.drew (Below.refl _ _) | exact keep_then (by assumption) (And.left (by assumption)) | assumption)
          (first
            | (go_at_call 18; ((first | (with_reducible refine (cCc _ (And.left (by assumption))).mono ?_) | (with_reducible refine (cCd _ (And.left (by assumption))).mono ?_)); rintro e wx ⟨⟨u, rfl, hu⟩, hbx⟩))
            | (go_at_call 16; ((first | (with_reducible refine (cS2 _ (And.left (by assumption))).mono ?_) | (with_reducible refine (cS1 _ _ (by assumption) (And.left (by assumption))).mono ?_)); rintro e wx ⟨rfl, hbx⟩)))
        all_goals
          go_wp2
          go_ret
          exact ⟨rfl, below_then hBw (And.left (by assumption))⟩
end Go.Proofs.YthkcjfoihieooaaDoor.Li
