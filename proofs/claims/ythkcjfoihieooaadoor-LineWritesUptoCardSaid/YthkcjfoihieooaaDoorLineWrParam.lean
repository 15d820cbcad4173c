/-
  THE WALK OF line.writeParam.
-/
import Derived.Test.YthkcjfoihieooaaDoorLineWrite
set_option linter.unusedVariables false
namespace Go.Proofs.YthkcjfoihieooaaDoor.Li
open Go.Lib Go.RowKit Bu

def markAt (m : UInt8) (k : Nat) : UInt8 := if k = 0 then m else 44
theorem wvs_snoc : ∀ (vs : List Row) (m : UInt8) (v : Row), wvs m (vs ++ [v]) = wvs m vs ++ (markAt m vs.length :: wval v)
  | [], m, v => by simp [wvs, markAt]
  | u :: vs, m, v => by
    have := wvs_snoc vs 44 v
    rw [List.cons_append, wvs, this, wvs]
    simp [markAt]
theorem wvs_take (vs : List Row) (m : UInt8) (k : Nat) (v : Row) (h : vs[k]? = some v) : wvs m (vs.take (k + 1)) = wvs m (vs.take k) ++ (markAt m k :: wval v) := by
  obtain ⟨hl, hv⟩ := List.getElem?_eq_some_iff.1 h
  rw [List.take_succ_eq_append_getElem hl, hv, wvs_snoc, List.length_take, Nat.min_eq_left (by omega)]
theorem wvs_le : ∀ (a b : List Row) (m : UInt8), (wvs m a).length ≤ (wvs m (a ++ b)).length
  | [], b, m => by simp [wvs]
  | v :: a, b, m => by
    have := wvs_le a b 44
    rw [List.cons_append, wvs, wvs]
    simp only [List.length_cons, List.length_append]
    omega
theorem wvs_take_le (vs : List Row) (m : UInt8) (k : Nat) : (wvs m (vs.take k)).length ≤ (wvs m vs).length := by
  have := wvs_le (vs.take k) (vs.drop k) m
  rwa [List.take_append_drop] at this

set_option maxHeartbeats 8000000 in
set_option maxRecDepth 100000 in
theorem writeParam_any (w0 : World) (B b : Nat) (l : Row) (nm : ByteArray) (vv : Value) (vs : List Row) (w : World) (h : Bd B b l w) (hs0 : StrsAt w0 vv vs) (hw0 : Below w0.heap.size w0 w) (hB0 : w0.heap.size ≤ B)
    (hlen : l.length + (wprm ⟨nm.data.toList, vs⟩).length ≤ 140737488355328) (hBw : B ≤ w.heap.size) (hvs : ∀ v ∈ vs, v.length ≤ 9223372036854775807) :
    Calls Tryd.prog 35 #[.pointer (some ⟨b, 0, none⟩), .agg #[.string nm, vv]] w fun e w' => e = .returned (.tuple #[]) ∧ Bd B b (l ++ wprm ⟨nm.data.toList, vs⟩) w' ∧ Below B w w' ∧ KeptT w w' := by
  obtain ⟨A, g, o, c, rfl, h1, h2, h3, h4⟩ := hs0
  have hwp : wprm ⟨nm.data.toList, vs⟩ = 59 :: (nm.data.toList ++ wvs 61 vs) := rfl
  have hwl : (wprm ⟨nm.data.toList, vs⟩).length = 1 + nm.size + (wvs 61 vs).length := by rw [hwp, List.length_cons, List.length_append, ← Lib.size_eq]; omega
  obtain ⟨n, hn⟩ : ∃ n, vs.length = n := ⟨_, rfl⟩
  rw [hn] at h1 h3 ⊢
  have hal : Below w.heap.size w (w.alloc (.cells #[.string nm, .slice A n c] 40)) := (Below.refl _ _).alloc (Nat.le_refl _) _
  have hbox := heap_alloc_new w (.cells #[.string nm, .slice A n c] 40)
  have hbd0 := h.kept hal
  have hB1 : Below B w (w.alloc (.cells #[.string nm, .slice A n c] 40)) := hal.mono hBw
  have hk1 := KeptT.of_below hal
  have cB := byte_full B b l 59 (w.alloc (.cells #[.string nm, .slice A n c] 40)) hbd0 (by omega) (by simp; omega)
  have hl2 : (l ++ [59]).length + nm.size ≤ 140737488355328 := by rw [List.length_append, List.length_singleton]; omega
  have hbase : ∀ x, (l ++ [59] ++ nm.data.toList).length = l.length + 1 + nm.size + x - x := fun x => by rw [List.length_append, List.length_append, List.length_singleton, ← Lib.size_eq]; omega
  have hstep : ∀ (k : Nat) (v : Row), vs[k]? = some v → (l ++ [59] ++ nm.data.toList ++ wvs 61 (vs.take k)).length + 1 ≤ 140737488355328 ∧
      ((l ++ [59] ++ nm.data.toList ++ wvs 61 (vs.take k)) ++ [markAt 61 k]).length + (wval v).length ≤ 140737488355328 ∧
      ((l ++ [59] ++ nm.data.toList ++ wvs 61 (vs.take k)) ++ [markAt 61 k]) ++ wval v = l ++ [59] ++ nm.data.toList ++ wvs 61 (vs.take (k + 1)) := fun k v hv => by
    have e := wvs_take vs 61 k v hv
    have e2 := wvs_take_le vs 61 (k + 1)
    have e3 := hbase 0
    rw [e, List.length_append, List.length_cons] at e2
    refine ⟨by rw [List.length_append]; omega, by rw [List.length_append, List.length_append, List.length_singleton]; omega, by rw [e]; simp⟩
  have hfin : l ++ [59] ++ nm.data.toList ++ wvs 61 vs = l ++ wprm ⟨nm.data.toList, vs⟩ := by rw [hwp]; simp
  have hstep' := Lib.hid hstep
  have hfin' := Lib.hid hfin
  have hn' := Lib.hid hn
  have h3' := Lib.hid h3
  have h4' := Lib.hid h4
  have hvs' := Lib.hid hvs
  have hbox' := Lib.hid hbox
  unfold maxLen at h2
  clear hwp hwl hn h3 h4 hstep hfin hbase hvs hbox h hbd0 hlen
  go_enter Tryd.func35, Tryd.ntmps35
  go_wp2_with fail
  go_at_call 34
  refine cB.mono ?_
  rintro e w1 ⟨rfl, hbd1, hb1, ht1⟩
  have hx1 := ht1 _ _ _ _ hbox'.out (by decide) (by decide)
  have hB2 := hB1.trans hb1
  have hT2 := hk1.trans ht1
  have p0 : w1.cell? ⟨w.heap.size, 0, none⟩ = some (.string nm) := by rw [Lib.cell_of_heap hx1]; rfl
  have hx1' := Lib.hid hx1
  have hBw1 : B ≤ w1.heap.size := Nat.le_trans hBw hB2.size
  have cW := write_full B b _ nm w1 hbd1 hl2 hBw1
  clear cB hb1 ht1 hx1 hB1 hk1 hal hbd1
  go_wp2_with fail
  go_at_call 33
  refine cW.mono ?_
  rintro e w2 ⟨rfl, hbd2, hb2, ht2⟩
  have hx2 := ht2 _ _ _ _ hx1'.out (by decide) (by decide)
  have hB3 := hB2.trans hb2
  have hT3 := hT2.trans ht2
  have p1 : w2.cell? ⟨w.heap.size, 1, none⟩ = some (.slice A n c) := by rw [Lib.cell_of_heap hx2]; rfl
  have hBw2 : B ≤ w2.heap.size := Nat.le_trans hBw hB3.size
  have hT3' := Lib.hid hT3
  clear cW hb2 ht2 hx2 hB2 hT2 p0 hT3
  go_wp2
  go_loopw [4, 16] (fun s4 s16 wr => ∃ k : Nat, s16 = .int .i64 (k : Int) ∧ s4 = .int .u8 ((markAt 61 k).toNat : Int) ∧ k ≤ n ∧ Bd B b (l ++ [59] ++ nm.data.toList ++ wvs 61 (vs.take k)) wr ∧ Below B w wr ∧ KeptT w wr) (fun s4 s16 wr => n - (RowKit.intOf s16).toNat)
  case atStart => exact ⟨0, rfl, rfl, Nat.zero_le _, by simpa [wvs] using hbd2, hB3, hT3'.out⟩
  case round =>
    obtain ⟨k, rfl, rfl, hk, hbd, hbw, hkt⟩ := hrel
    have hBr : B ≤ wr.heap.size := Nat.le_trans hBw hbw.size
    have hkt' := Lib.hid hkt
    clear hkt
    obtain ⟨m, hm⟩ : ∃ m, markAt 61 k = m := ⟨_, rfl⟩
    have hstepk := hstep'.out k
    rw [hm] at hstepk ⊢
    have hm' := Lib.hid hm
    clear hm
    by_cases hlt : k < n
    · have hv : vs[k]? = some (vs[k]'(by have := hn'.out; omega)) := List.getElem?_eq_getElem _
      obtain ⟨V, hV⟩ : ∃ V, vs[k]'(by have := hn'.out; omega) = V := ⟨_, rfl⟩
      rw [hV] at hv
      have hVm : V.length ≤ 9223372036854775807 := hvs'.out V (by rw [← hV]; exact List.getElem_mem _)
      obtain ⟨rfl, hg⟩ := h3'.out (by omega)
      have hc := h4'.out k V hv
      have hwr0 : Below w0.heap.size w0 wr := hw0.trans (hbw.mono hB0)
      rw [← hwr0.cell (p := ⟨g, o + k, none⟩) hg] at hc
      obtain ⟨x, hx⟩ : ∃ x : ByteArray, (⟨V.toArray⟩ : ByteArray) = x := ⟨_, rfl⟩
      have hxd : x.data.toList = V := by rw [← hx]
      unfold sv at hc
      rw [hx] at hc
      obtain ⟨s1, s2, s3⟩ := hstepk V hv
      have cB := byte_full B b _ m wr hbd s1 hBr
      have hwval : ∀ W, Bd B b ((l ++ [59] ++ nm.data.toList ++ wvs 61 (vs.take k)) ++ [m]) W → B ≤ W.heap.size → Calls Tryd.prog 57 #[.pointer (some ⟨b, 0, none⟩), .string x] W fun e w' => e = .returned (.tuple #[]) ∧ Bd B b (l ++ [59] ++ nm.data.toList ++ wvs 61 (vs.take (k + 1))) w' ∧ Below B W w' ∧ KeptT W w' := fun W hW hBW => by
        have := writeValue_any B b _ x W hW (by rw [hxd]; exact s2) hBW (by rw [Lib.size_eq, hxd]; exact hVm)
        rw [hxd, s3] at this
        exact this
      have hwval' := Lib.hid hwval
      clear hv hV hVm hg hwr0 hx hxd s1 s2 s3 hwval hstepk
      go_wp2_with fail
      go_at_call 34
      refine cB.mono ?_
      rintro e w3 ⟨rfl, hbd3, hb3, ht3⟩
      have hB4 := hbw.trans hb3
      have hT4 := Lib.hid (hkt'.out.trans ht3)
      have cV := hwval'.out w3 hbd3 (Nat.le_trans hBw hB4.size)
      clear cB hb3 ht3 hbd3
      go_wp2_with fail
      go_at_call 57
      refine cV.mono ?_
      rintro e w4 ⟨rfl, hbd4, hb4, ht4⟩
      clear cV
      go_wp2
      go_roundw
      case rel => exact ⟨k + 1, by go_num, rfl, by omega, hbd4, hB4.trans hb4, hT4.out.trans ht4⟩
      case measure => simp [RowKit.intOf]; omega
    · rw [List.take_of_length_le (by have := hn'.out; omega), hfin'.out] at hbd
      clear hstepk
      go_wp2
      go_end0
      exact ⟨rfl, hbd, hbw, hkt'.out⟩
end Go.Proofs.YthkcjfoihieooaaDoor.Li
