/-
  THE WALK OF THE REFERENCE's Parse.
-/
import Derived.Test.YtljacnedlgnldaaDoorTokRef
set_option linter.unusedVariables false
namespace Go.Proofs.YtljacnedlgnldaaDoor.To
open Go.Lib Go.RowKit

/-- what the reference's Parse answers -/
def refE (r : Option (Nat × Nat)) : Ending := match r with
  | some p => .returned (.tuple #[tokV (p.1 : Int) (p.2 : Int), .bool true])
  | none => .returned (.tuple #[tokV 0 0, .bool false])
theorem load_two {W : World} {g : Nat} {u v : Value} {t : TypeId} {fr : Nat × Nat} (h : W.heap[g]? = some (.cells #[u, v] t fr)) : (loadVar 23 ⟨g, 0, none⟩).run Tryd.prog W = .ok (.agg #[u, v]) W :=
  run_loadVar_row W g t 23 #[u, v] fr _ h Tryd.underlying23 rfl (by kernel_rfl)
theorem two_none {r : Row} (h : (46 : UInt8) ∉ r) : two r = none := by
  unfold two
  cases hc : Ht.cutB 46 r with
  | none => rfl
  | some q =>
    obtain ⟨x, y⟩ := q
    have := (cut_some hc).1
    exact absurd (by rw [this]; simp) h
theorem two_at {x y : Row} (h : (46 : UInt8) ∉ x) : two (x ++ 46 :: y) = if (Ch.numS x most).2 = true ∧ (Ch.numS y most).2 = true ∧ right (Ch.numS x most).1 (Ch.numS y most).1 then some ((Ch.numS x most).1, (Ch.numS y most).1) else none := by
  unfold two
  rw [Ht.cutB_at _ h]
theorem row_at {s : ByteArray} {i : Nat} (h : i < s.size) : s.data.toList.drop i = (s[i]'h) :: s.data.toList.drop (i + 1) :=
  List.drop_eq_getElem_cons (l := s.data.toList) (i := i) (by rw [← Lib.size_eq]; exact h)
theorem take_more {s : ByteArray} {i : Nat} (h12 : 12 ≤ i) (h : i < s.size) : (s.data.toList.drop 12).take (i + 1 - 12) = (s.data.toList.drop 12).take (i - 12) ++ [s[i]'h] := by
  rw [show i + 1 - 12 = (i - 12) + 1 by omega, List.take_succ_eq_append_getElem (by rw [List.length_drop, ← Lib.size_eq]; omega)]
  congr 2
  rw [List.getElem_drop]
  show s.data.toList[12 + (i - 12)]'_ = s.data.toList[i]'_
  congr 1
  omega
/-- the box of the answer, nothing stored yet -/
def Zb (g : Nat) (W : World) : Prop := W.heap[g]? = some (.cells #[.int .i64 0, .int .i64 0] 23 (0, 0))
theorem zb_cells {g : Nat} {W : World} (h : Zb g W) : W.cell? ⟨g, 0, none⟩ = some (.int .i64 0) ∧ W.cell? ⟨g, 1, none⟩ = some (.int .i64 0) ∧ W.frozen? ⟨g, 0, none⟩ = false ∧ W.frozen? ⟨g, 1, none⟩ = false := by
  unfold Zb at h
  exact ⟨(cell_of_row _ _ 0 _ _ _ h).trans rfl, (cell_of_row _ _ 1 _ _ _ h).trans rfl, by simp [World.frozen?, h], by simp [World.frozen?, h]⟩
theorem Zb.kept {g : Nat} {W W' : World} (h : Zb g W) (hb : Below W.heap.size W W') : Zb g W' := (hb.block g (Array.getElem?_eq_some_iff.1 h).1).trans h
theorem below_two {n g : Nat} {w W : World} (hb : Below n w W) (hg : n ≤ g) (u v : Value) : Below n w ((W.setCell ⟨g, 0, none⟩ u).setCell ⟨g, 1, none⟩ v) :=
  (hb.setCell (p := ⟨g, 0, none⟩) hg _).setCell (p := ⟨g, 1, none⟩) hg _
theorem stored_alloc {W : World} {g : Nat} {u0 u1 v0 v1 : Value} {t : TypeId} {fr : Nat × Nat} (h : W.heap[g]? = some (.cells #[u0, u1] t fr)) (o : Obj) :
    (((W.setCell ⟨g, 0, none⟩ v0).setCell ⟨g, 1, none⟩ v1).alloc o).heap[g]? = some (.cells #[v0, v1] t fr) := by
  have h2 := stored_two (v0 := v0) (v1 := v1) h
  exact (Below.heap_alloc _ _ _ (Array.getElem?_eq_some_iff.1 h2).1).trans h2
theorem below_two_alloc {n g : Nat} {w W : World} (hb : Below n w W) (hg : n ≤ g) (hn : n ≤ w.heap.size) (u v : Value) (o : Obj) : Below n w (((W.setCell ⟨g, 0, none⟩ u).setCell ⟨g, 1, none⟩ v).alloc o) := by
  have h := below_two hb hg u v
  exact h.alloc (Nat.le_trans hn h.size) o
theorem num_le (x : Row) : (Ch.numS x most).1 ≤ most := Ch.numS_le x most
theorem num_say {x : Row} {n : Nat} {ok : Bool} (h : Ch.numS x most = (n, ok)) : (Ch.numS x most).1 = n ∧ (Ch.numS x most).2 = ok := by rw [h]; exact ⟨rfl, rfl⟩
set_option maxHeartbeats 16000000 in
set_option maxRecDepth 100000 in
theorem refParse_any (s : ByteArray) (w : World) (hs : s.size ≤ 140737488355328) :
    Calls Tryd.prog 11 #[.string s] w fun e w' => e = refE (paT s.data.toList) ∧ Below w.heap.size w w' := by
  obtain ⟨E, hE⟩ : ∃ E, refE (paT s.data.toList) = E := ⟨_, rfl⟩
  rw [hE]
  obtain ⟨wb, hwb⟩ : ∃ wb, w.alloc (.cells #[.int .i64 0, .int .i64 0] 23) = wb := ⟨_, rfl⟩
  have hB : Below w.heap.size w wb := by rw [← hwb]; exact (Below.refl _ _).alloc (Nat.le_refl _) _
  have hk : Zb w.heap.size wb := by unfold Zb; rw [← hwb]; exact heap_alloc_new w _
  have hno : paT s.data.toList = none → E = .returned (.tuple #[tokV 0 0, .bool false]) := fun h => by rw [← hE, h]; rfl
  have hyes : ∀ n m, paT s.data.toList = some (n, m) → E = .returned (.tuple #[tokV (n : Int) (m : Int), .bool true]) := fun n m h => by rw [← hE, h]; rfl
  have hlen : s.data.toList.length = s.size := (Lib.size_eq s).symm
  have hno' := Lib.hid hno
  have hyes' := Lib.hid hyes
  have hB' := Lib.hid hB
  have hk' := Lib.hid hk
  obtain ⟨x0, x1, f0, f1⟩ := zb_cells hk
  by_cases h12 : s.size < 12
  · have hp : paT s.data.toList = none := by
      unfold paT
      rw [if_neg]
      intro e
      have := congrArg List.length e
      rw [List.length_take, hlen] at this
      have h2 : pre.length = 12 := rfl
      omega
    have hf := Lib.hid (hno hp)
    have hz : (s.size : Int) < 12 := by omega
    clear hp hno hyes hlen hB hk hE
    go_enter Tryd.func11, Tryd.ntmps11
    go_wp2
    refine bodyPost_ret (v := .tuple #[tokV 0 0, .bool false]) ?_ rfl ⟨hf.out.symm, below_two hB'.out (Nat.le_refl _) _ _⟩
    rw [results_cell_tmp rfl]
    simp [asAddr, Result.andThen, load_two (stored_two hk'.out)]
  have hz : ¬ (s.size : Int) < 12 := by omega
  have hz12 : (12 : Int) ≤ (s.size : Int) := by omega
  obtain ⟨X, hX⟩ : ∃ X, s.extract 0 12 = X := ⟨_, rfl⟩
  have hXl : X.data.toList = s.data.toList.take 12 := by rw [← hX, Lib.extract_data]; rfl
  by_cases hpre : s.data.toList.take 12 = pre
  rotate_left
  · have hp : paT s.data.toList = none := by unfold paT; rw [if_neg hpre]
    have hf := Lib.hid (hno hp)
    have hq : (X.toList == [117, 114, 110, 58, 99, 97, 108, 101, 112, 105, 110, 58]) = false := by rw [Lib.toList_data, hXl]; exact beq_false_of_ne hpre
    have hq2 : (X.toList != [117, 114, 110, 58, 99, 97, 108, 101, 112, 105, 110, 58]) = true := by unfold bne; rw [hq]; rfl
    clear hp hno hyes hlen hB hk hE hXl hpre h12
    go_enter Tryd.func11, Tryd.ntmps11
    go_wp2
    refine bodyPost_ret (v := .tuple #[tokV 0 0, .bool false]) ?_ rfl ⟨hf.out.symm, below_two hB'.out (Nat.le_refl _) _ _⟩
    rw [results_cell_tmp rfl]
    simp [asAddr, Result.andThen, load_two (stored_two hk'.out)]
  have hq : (X.toList == [117, 114, 110, 58, 99, 97, 108, 101, 112, 105, 110, 58]) = true := by rw [Lib.toList_data, hXl, hpre]; rfl
  have hq2 : (X.toList != [117, 114, 110, 58, 99, 97, 108, 101, 112, 105, 110, 58]) = false := by unfold bne; rw [hq]; rfl
  have hpa : paT s.data.toList = two (s.data.toList.drop 12) := by unfold paT; rw [if_pos hpre]
  have hpa' := Lib.hid hpa
  have h12' := Lib.hid h12
  clear hno hyes hlen hB hk hE hXl hpre h12 hpa
  go_enter Tryd.func11, Tryd.ntmps11
  go_wp2
  go_loopw [4] (fun s4 wr => ∃ i : Nat, s4 = .int .i64 (i : Int) ∧ 12 ≤ i ∧ i ≤ s.size ∧ (46 : UInt8) ∉ (s.data.toList.drop 12).take (i - 12) ∧ wr = wb) (fun s4 wr => s.size - (RowKit.intOf s4).toNat)
  case atStart => exact ⟨12, rfl, Nat.le_refl _, by have := h12'.out; omega, by simp, rfl⟩
  case round =>
    obtain ⟨i, rfl, hi, his, hno2, hwr⟩ := hrel
    replace hwr := hwr.symm
    subst hwr
    by_cases hlt : i < s.size
    rotate_left
    · have hp : paT s.data.toList = none := by
        rw [hpa'.out]
        refine two_none ?_
        rw [List.take_of_length_le (by rw [List.length_drop, ← Lib.size_eq]; omega)] at hno2
        exact hno2
      have hf := Lib.hid (hno'.out hp)
      have hz2 : ¬ (i : Int) < (s.size : Int) := by omega
      clear hp hno2
      go_wp2
      refine bodyPost_ret (v := .tuple #[tokV 0 0, .bool false]) ?_ rfl ⟨hf.out.symm, below_two hB'.out (Nat.le_refl _) _ _⟩
      rw [results_cell_tmp rfl]
      simp [asAddr, Result.andThen, load_two (stored_two hk'.out)]
    obtain ⟨v, hv⟩ : ∃ v, (s[i]'hlt).toNat = v := ⟨_, rfl⟩
    by_cases hd : v = 46
    rotate_left
    · have hnx : (46 : UInt8) ∉ (s.data.toList.drop 12).take (i + 1 - 12) := by
        rw [take_more hi hlt]
        simp only [List.mem_append, List.mem_singleton, not_or]
        refine ⟨hno2, fun e => hd ?_⟩
        rw [← hv, ← e]; rfl
      have hnx' := Lib.hid hnx
      have c5 : ((v : Int) != 46) = true := by simp; omega
      clear hnx hno2 hd
      go_wp2
      go_roundw
      case rel => exact ⟨i + 1, by go_num, by omega, by omega, hnx'.out, trivial⟩
      case measure => simp [RowKit.intOf]; omega
    have c5 : ((v : Int) != 46) = false := by simp [hd]
    have hci : s[i]'hlt = 46 := UInt8.toNat_inj.1 (by rw [hv, hd]; rfl)
    have hdrop : s.data.toList.drop 12 = (s.data.toList.drop 12).take (i - 12) ++ 46 :: s.data.toList.drop (i + 1) := by
      conv => lhs; rw [← List.take_append_drop (i - 12) (s.data.toList.drop 12)]
      rw [List.drop_drop, show 12 + (i - 12) = i by omega, row_at hlt, hci]
    have e1 : (s.extract 12 i).data.toList = (s.data.toList.drop 12).take (i - 12) := by rw [Lib.extract_data]
    have e2 : (s.extract (i + 1) s.size).data.toList = s.data.toList.drop (i + 1) := Lib.extract_to_end s (i + 1)
    have htwo := two_at (y := s.data.toList.drop (i + 1)) hno2
    rw [← hdrop, ← hpa'.out, ← e1, ← e2] at htwo
    have cN := Ch.refNumber_any (s.extract 12 i) most wb (by simp; omega) (by decide)
    have cM := Ch.refNumber_any (s.extract (i + 1) s.size) most wb (by simp; omega) (by decide)
    obtain ⟨⟨n, okn⟩, hn⟩ : ∃ p, Ch.numS (s.extract 12 i).data.toList most = p := ⟨_, rfl⟩
    obtain ⟨⟨m, okm⟩, hm⟩ : ∃ p, Ch.numS (s.extract (i + 1) s.size).data.toList most = p := ⟨_, rfl⟩
    have ln := num_le (s.extract 12 i).data.toList
    have lm := num_le (s.extract (i + 1) s.size).data.toList
    rw [hn] at cN ln htwo
    rw [hm] at cM lm htwo
    unfold Ch.numE at cN cM
    unfold most at cN cM ln lm
    simp only at ln lm htwo cN cM
    rw [show ((4611686018427387904 : Nat) : Int) = 4611686018427387904 from rfl] at cN cM
    have wn : IntKind.i64.wrap (n : Int) = (n : Int) := IntWalk.i64_in _ (by omega)
    have wm : IntKind.i64.wrap (m : Int) = (m : Int) := IntWalk.i64_in _ (by omega)
    have wi : IntKind.i64.wrap ((i : Int) + 1) = (i : Int) + 1 := IntWalk.i64_in _ (by omega)
    have z1 : (12 : Int) ≤ (i : Int) := by omega
    have z2 : (i : Int) ≤ (s.size : Int) := by omega
    have z3 : (i : Int) + 1 ≤ (s.size : Int) := by omega
    have cR := refRight_any (n : Int) (m : Int)
    have hrI : rightI (n : Int) (m : Int) = decide (right n m) := by
      rw [rightI_is]
      exact decide_eq_decide.2 (by unfold right most; omega)
    rw [hrI] at cR
    clear hn hm hdrop e1 e2 hno2 hrI hci
    have hlb : w.heap.size < wb.heap.size := (Array.getElem?_eq_some_iff.1 hk'.out).1
    have hbA : Below wb.heap.size wb (wb.alloc (.cells #[.int .i64 (n : Int), .int .i64 (m : Int)] 23)) := (Below.refl _ _).alloc (Nat.le_refl _) _
    obtain ⟨y0, y1, g0, g1⟩ := zb_cells (hk'.out.kept hbA)
    have hbA' := Lib.hid hbA
    by_cases hok : okn = true ∧ okm = true
    rotate_left
    · have hp : paT s.data.toList = none := by rw [htwo, if_neg (fun h => hok ⟨h.1, h.2.1⟩)]
      have hf := Lib.hid (hno'.out hp)
      clear htwo hp cR hbA
      have hway : okn = false ∨ (okn = true ∧ okm = false) := by
        cases okn
        · exact .inl rfl
        · cases okm
          · exact .inr ⟨rfl, rfl⟩
          · exact absurd ⟨rfl, rfl⟩ hok
      clear hok
      rcases hway with rfl | ⟨rfl, rfl⟩
      all_goals
        go_wp2_with fail
        go_at_call 20
        refine cN.mono ?_
        rintro e w1 ⟨rfl, hw1⟩
        subst hw1
        go_wp2_with fail
        go_at_call 20
        refine cM.mono ?_
        rintro e w2 ⟨rfl, hw2⟩
        subst hw2
        go_wp2
        refine bodyPost_ret (v := .tuple #[tokV 0 0, .bool false]) ?_ rfl ⟨hf.out.symm, below_two_alloc hB'.out (Nat.le_refl _) (Nat.le_refl _) _ _ _⟩
        rw [results_cell_tmp rfl]
        simp [asAddr, Result.andThen, load_two (stored_alloc hk'.out _)]
    · obtain ⟨rfl, rfl⟩ := hok
      have hP : (decide (right n m) = true ∧ E = .returned (.tuple #[tokV (n : Int) (m : Int), .bool true])) ∨ (decide (right n m) = false ∧ E = .returned (.tuple #[tokV 0 0, .bool false])) := by
        by_cases hr : right n m
        · exact .inl ⟨decide_eq_true hr, hyes'.out n m (by rw [htwo, if_pos ⟨rfl, rfl, hr⟩])⟩
        · exact .inr ⟨decide_eq_false hr, hno'.out (by rw [htwo, if_neg (fun h => hr h.2.2)])⟩
      clear htwo hbA
      rcases hP with ⟨hr, hf⟩ | ⟨hr, hf⟩
      all_goals
        rw [hr] at cR
        have hf' := Lib.hid hf
        clear hr hf
        go_wp2_with fail
        go_at_call 20
        refine cN.mono ?_
        rintro e w1 ⟨rfl, hw1⟩
        subst hw1
        go_wp2_with fail
        go_at_call 20
        refine cM.mono ?_
        rintro e w2 ⟨rfl, hw2⟩
        subst hw2
        go_wp2_with fail
        go_at_call 15
        refine (cR _).mono ?_
        rintro e w3 ⟨rfl, hb3⟩
        obtain ⟨u0, u1⟩ := box_two hb3
        have hk3 := Lib.hid ((hk'.out.kept hbA'.out).kept hb3)
        obtain ⟨y0, y1, g0, g1⟩ := zb_cells hk3.out
        have hB3 := Lib.hid (below_then hB'.out (below_then hbA'.out hb3))
        clear hb3
      · go_wp2
        refine bodyPost_ret (v := .tuple #[tokV (n : Int) (m : Int), .bool true]) ?_ rfl ⟨hf'.out.symm, below_two hB3.out (Nat.le_refl _) _ _⟩
        rw [results_cell_tmp rfl]
        simp [asAddr, Result.andThen, load_two (stored_two hk3.out)]
      · go_wp2
        refine bodyPost_ret (v := .tuple #[tokV 0 0, .bool false]) ?_ rfl ⟨hf'.out.symm, below_two hB3.out (Nat.le_refl _) _ _⟩
        rw [results_cell_tmp rfl]
        simp [asAddr, Result.andThen, load_two (stored_two hk3.out)]
end Go.Proofs.YtljacnedlgnldaaDoor.To
