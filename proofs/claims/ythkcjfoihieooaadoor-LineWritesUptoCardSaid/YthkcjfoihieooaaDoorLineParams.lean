/-
  THE WALK OF line.cutParams.
-/
import Derived.Test.YthkcjfoihieooaaDoorLineParam
set_option linter.unusedVariables false
namespace Go.Proofs.YthkcjfoihieooaaDoor.Li
open Go.Lib Go.RowKit Bu

def ParamsP (B : Nat) (t : Row) (e : Ending) (w' : World) : Prop :=
  (∃ n : Nat, (∀ g m acc, fin g m acc t = .bad n) ∧ n ≠ 0 ∧ n < 100 ∧ e = .returned (.tuple #[.slice none 0 0, .string ⟨#[]⟩, .int .i64 (n : Int)])) ∨
  ∃ (r : ByteArray) (v : Value) (ps : List PD), (∀ g m acc, fin g m acc t = fin g m (acc ++ ps) r.data.toList) ∧ r.data.toList.head? ≠ some 59 ∧ r.size ≤ t.length ∧
    e = .returned (.tuple #[v, .string r, .int .i64 0]) ∧ POwn B v ps w'
def ParamsRel (T : ByteArray) (w : World) (s0 s2 : Value) (wr : World) : Prop :=
  ∃ (t : ByteArray) (acc : List PD) (v : Value), s0 = .string t ∧ v = s2 ∧ POwn w.heap.size s2 acc wr ∧ Below w.heap.size w wr ∧ acc.length + t.size ≤ T.size ∧ ∀ g m a, fin g m a T.data.toList = fin g m (a ++ acc) t.data.toList

/-- one parameter more -/
theorem POwn.more {B : Nat} {v v' u : Value} {ps : List PD} {p : PD} {vs : List Value} {W w' : World} (hl : ps.length = vs.length) (hrow : W.ownsRow B 40 2 v ps.length (pcells ps vs)) (hv : ∀ (j : Nat) (p : PD) (u : Value), ps[j]? = some p → vs[j]? = some u → Own B u p.vals W)
    (hu : Own B u p.vals W) (hown' : w'.ownsRow B 40 2 v' (ps.length + 1) (pcells ps vs ++ [sv p.name, u])) (hg : W.grownBy w' v.ownBlock) : POwn B v' (ps ++ [p]) w' := by
  refine ⟨vs ++ [u], by simp [hl], ?_, fun j q x hq hx => ?_⟩
  · rw [pcells_snoc _ _ _ _ hl, List.length_append]
    exact hown'
  · by_cases hj : j < ps.length
    · rw [List.getElem?_append_left hj] at hq
      rw [List.getElem?_append_left (by omega)] at hx
      exact ownsRow_beside (hv j q x hq hx) hrow strPrm_ne hg
    · rw [List.getElem?_append_right (by omega)] at hq
      rw [List.getElem?_append_right (by omega)] at hx
      have hj0 : j = ps.length := by
        have := (List.getElem?_eq_some_iff.1 hq).1
        simp at this; omega
      subst hj0
      rw [Nat.sub_self] at hq
      rw [hl, Nat.sub_self] at hx
      simp at hq hx
      subst hq; subst hx
      exact ownsRow_beside hu hrow strPrm_ne hg

set_option maxHeartbeats 4000000 in
set_option maxRecDepth 100000 in
theorem cutParams_any (T : ByteArray) (w : World) (hs : T.size ≤ 1099511627776) :
    Calls Tryd.prog 23 #[.string T] w fun e w' => ParamsP w.heap.size T.data.toList e w' ∧ Below w.heap.size w w' := by
  obtain ⟨i0, hi, hz0, hz1, hz2⟩ := info_parts infoPrm
  have hTl := Lib.hid (Lib.size_eq T)
  go_enter Tryd.func23, Tryd.ntmps23
  go_wp2
  go_loopw [0, 2] (fun s0 s2 wr => ParamsRel T w s0 s2 wr) (fun s0 s2 wr => strLen s0)
  case atStart => exact ⟨T, [], _, rfl, rfl, POwn.nil _ _, Below.refl _ _, by simp, fun g m a => by simp⟩
  case round =>
    obtain ⟨t, acc, s2, rfl, rfl, hown, hbw, hL, hF⟩ := hrel
    have hF' := Lib.hid hF
    clear hF
    by_cases h59 : t.data.toList.head? = some 59
    · have cH := fun W => hasPre_is t 59 true W (decide_eq_true h59)
      have ht1 := size_pos t h59
      have hxs : (t.extract 1 t.size).data.toList = t.data.toList.tail := cut_tail t
      have hxl : (t.extract 1 t.size).size = t.size - 1 := by rw [Lib.size_eq, hxs, List.length_tail, ← Lib.size_eq]
      have cP := cutParam_any (t.extract 1 t.size) (wr.alloc (.cells #[.string ⟨#[]⟩, .slice none 0 0] 40)) (by omega)
      rw [hxs] at cP
      have htl := Lib.hid (show t.data.toList.tail.length = t.size - 1 by rw [List.length_tail, ← Lib.size_eq])
      have h59' := Lib.hid h59
      clear hxs hxl h59
      go_wp2_with (go_at_call 44; refine (cH _).mono ?_; rintro e w' ⟨rfl, rfl⟩)
      go_at_call 45
      refine cP.mono ?_
      rintro e w1 ⟨hc, hb0⟩
      clear cP cH
      have hz1' : wr.heap.size < w1.heap.size := by have := hb0.size; simp at this; omega
      have hk1 : w1.heap[wr.heap.size]? = some (.cells #[.string ⟨#[]⟩, .slice none 0 0] 40 (0, 0)) := by
        rw [hb0.block wr.heap.size (by simp)]
        exact heap_alloc_new wr _
      have hb1 : Below wr.heap.size wr w1 := ((Below.refl _ _).alloc (Nat.le_refl _) _).trans (hb0.mono (by simp))
      have c0 : w1.cell? ⟨wr.heap.size, 0, none⟩ = some (.string ⟨#[]⟩) := by rw [Lib.cell_of_heap hk1]; rfl
      have c1 : w1.cell? ⟨wr.heap.size, 1, none⟩ = some (.slice none 0 0) := by rw [Lib.cell_of_heap hk1]; rfl
      have f0 : w1.frozen? ⟨wr.heap.size, 0, none⟩ = false := Lib.frozen_of_heap hk1 0
      have f1 : w1.frozen? ⟨wr.heap.size, 1, none⟩ = false := Lib.frozen_of_heap hk1 1
      clear hk1 hb0
      rcases hc with ⟨n, h1, hn0, hn1, rfl⟩ | ⟨n, r, v, vs, h1, hr, rfl, hown1⟩
      · have hfin : ∀ W, ParamsP w.heap.size T.data.toList (.returned (.tuple #[.slice none 0 0, .string ⟨#[]⟩, .int .i64 (n : Int)])) W := fun W => .inl ⟨n, fun g m a => by rw [hF'.out, h1 _ _ _ _ h59'.out rfl], hn0, hn1, rfl⟩
        have hfin' := Lib.hid hfin
        have d1 : ((n : Int) != 0) = true := bne_iff_ne.2 (by omega)
        have d2 : ((n : Int) == 0) = false := beq_eq_false_iff_ne.2 (by omega)
        clear hfin h1
        have hB : ∀ x y, Below w.heap.size w ((w1.setCell ⟨wr.heap.size, 0, none⟩ x).setCell ⟨wr.heap.size, 1, none⟩ y) := fun x y => ((below_then hbw hb1).setCell (p := ⟨wr.heap.size, 0, none⟩) hbw.size _).setCell (p := ⟨wr.heap.size, 1, none⟩) hbw.size _
        go_wp2
        go_ret3
        exact ⟨hfin'.out _, hB _ _⟩
      · obtain ⟨ao, c, rfl⟩ := hown1.form
        obtain ⟨l, hl⟩ : ∃ l, vs.length = l := ⟨_, rfl⟩
        have hrl : r.size < t.size := by have := htl.out; omega
        have hstep := Lib.hid (fun g m a => (hF'.out g m a).trans (h1 t.data.toList g m (a ++ acc) h59'.out rfl))
        obtain ⟨us, hus, hrow, hvals⟩ := hown
        have hB : ∀ x y, Below wr.heap.size wr ((w1.setCell ⟨wr.heap.size, 0, none⟩ x).setCell ⟨wr.heap.size, 1, none⟩ y) := fun x y => (hb1.setCell (p := ⟨wr.heap.size, 0, none⟩) (Nat.le_refl _) _).setCell (p := ⟨wr.heap.size, 1, none⟩) (Nat.le_refl _) _
        have hbs := hB (.string n) (.slice ao vs.length c)
        have hownv : Own w.heap.size (.slice ao vs.length c) vs ((w1.setCell ⟨wr.heap.size, 0, none⟩ (.string n)).setCell ⟨wr.heap.size, 1, none⟩ (.slice ao vs.length c)) := by
          have h := ownsRow_setCell_below (ownsRow_setCell_below hown1 (a := ⟨wr.heap.size, 0, none⟩) (by simp) (.string n)) (a := ⟨wr.heap.size, 1, none⟩) (by simp) (.slice ao vs.length c)
          exact Own.less h (by have := hbw.size; simp; omega)
        have hrow1 := ownsRow_kept hrow hbs
        have hvals1 := fun j p u hp hu => (hvals j p u hp hu).kept hbs
        have hbw1 := below_then hbw hbs
        have hfinal : ∀ (v' : Value) (w' : World), w'.ownsRow w.heap.size 40 2 v' (acc.length + 1) (pcells acc us ++ [.string n, .slice ao vs.length c]) →
            ((((w1.setCell ⟨wr.heap.size, 0, none⟩ (.string n)).setCell ⟨wr.heap.size, 1, none⟩ (.slice ao vs.length c)).alloc (.cells #[.string n, .slice ao vs.length c] 40))).grownBy w' s2.ownBlock → POwn w.heap.size v' (acc ++ [⟨n.data.toList, vs⟩]) w' := fun v' w' hx hg => by
          have hal : Below (((w1.setCell ⟨wr.heap.size, 0, none⟩ (.string n)).setCell ⟨wr.heap.size, 1, none⟩ (.slice ao vs.length c))).heap.size ((w1.setCell ⟨wr.heap.size, 0, none⟩ (.string n)).setCell ⟨wr.heap.size, 1, none⟩ (.slice ao vs.length c)) (((w1.setCell ⟨wr.heap.size, 0, none⟩ (.string n)).setCell ⟨wr.heap.size, 1, none⟩ (.slice ao vs.length c)).alloc (.cells #[.string n, .slice ao vs.length c] 40)) := (Below.refl _ _).alloc (Nat.le_refl _) _
          refine POwn.more (p := ⟨n.data.toList, vs⟩) (w' := w') hus (ownsRow_kept hrow1 hal) (fun j p u hp hu => (hvals1 j p u hp hu).kept hal) (hownv.kept hal) ?_ hg
          rw [sv_data]; exact hx
        rw [hl] at hrow1 hfinal hbs
        have hrl' := Lib.hid hl
        have hus' := Lib.hid hus
        have hcnt : acc.length ≤ 1099511627776 := by omega
        have hbw2 := hbw1
        rw [hl] at hbw1 hbw2
        rw [hl]
        have hfinal' := Lib.hid hfinal
        clear hown1 hownv hvals hvals1 hrow h1 hB hus hbw2 hl hfinal
        go_wp2_with (at_builtin; refine wpList_append_own _ rfl _ _ 23 rfl w.heap.size 40 i0 (.agg #[.string ⟨#[]⟩, .slice none 0 0]) 2 40 Tryd.underlying23 hi hz0 hz1 hz2 rfl (by decide) _ _ _ rfl (hrow1.alloc _) ⟨w1.heap.size, 0, none⟩ 1 1 [.string n, .slice ao l c] rfl rfl ?c1 ?c2 ?c3 ?c4 ?c5 ?_)
        case c1 =>
          intro j u hj
          match j, hj with
          | 0, hj => simp at hj; subst hj; simp [Addr.add]; rw [World.cell?_alloc_at _ _ _ _ (by simp)]; rfl
          | 1, hj => simp at hj; subst hj; simp [Addr.add]; rw [World.cell?_alloc_at _ _ _ _ (by simp)]; rfl
        case c2 => intro u hu; simp at hu; rcases hu with rfl | rfl <;> rfl
        case c3 => unfold maxLen; omega
        case c4 => omega
        case c5 => have := hbw1.size; simp at this; simp; omega
        intro v' w3 hown' hgrow _
        have hP : POwn w.heap.size v' (acc ++ [⟨n.data.toList, vs⟩]) w3 := hfinal'.out v' w3 hown' hgrow
        have hbw3 : Below w.heap.size w w3 := (hbw1.alloc hbw1.size _).grown hgrow (by have := hbw1.size; simp at this; simp; omega) (fun k hk => (hrow1.lt k hk).1)
        clear hown' hgrow hrow1 hfinal'
        go_wp2
        go_roundw
        case rel => exact ⟨r, _, _, rfl, rfl, hP, hbw3, by simp; omega, fun g m a => by rw [hstep.out g m a, List.append_assoc]⟩
        case measure => simp only [strLen]; omega
    · have cH := fun W => hasPre_is t 59 false W (decide_eq_false h59)
      have hfin : ParamsP w.heap.size T.data.toList (.returned (.tuple #[s2, .string t, .int .i64 0])) wr := .inr ⟨t, s2, acc, hF'.out, h59, by have := hTl.out; omega, rfl, hown⟩
      have hfin' := Lib.hid hfin
      clear hfin h59 hown
      go_wp2_with (go_at_call 44; refine (cH _).mono ?_; rintro e w' ⟨rfl, rfl⟩)
      go_ret3
      exact ⟨hfin'.out, hbw⟩
end Go.Proofs.YthkcjfoihieooaaDoor.Li
