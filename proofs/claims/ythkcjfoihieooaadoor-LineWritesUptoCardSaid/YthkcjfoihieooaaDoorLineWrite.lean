/-
  WALKS OF line.writeValue, writeParam.
-/
import Derived.Test.YthkcjfoihieooaaDoorLineCut
import Derived.Test.YthkcjfoihieooaaDoorLineMem
set_option linter.unusedVariables false
namespace Go.Proofs.YthkcjfoihieooaaDoor.Li
open Go.Lib Go.RowKit Bu

theorem asc3 : An.Asc ⟨#[44, 59, 58]⟩ := fun j b hb => by
  have : b ∈ ([44, 59, 58] : List UInt8) := List.mem_iff_getElem?.2 ⟨j, hb⟩
  simp only [List.mem_cons, List.not_mem_nil, or_false] at this
  rcases this with rfl | rfl | rfl <;> decide
theorem sgn_is (l : Row) : Lib.containsAny l [44, 59, 58] = sgn l := by
  rw [An.contains_any]
  unfold sgn
  congr 1
  funext b
  rw [Bool.eq_iff_iff]
  unfold sgB
  simp [or_assoc]
theorem v10 (x : UInt8) (h : x ≠ 10) : ((x.toNat : Int) == 10) = false := Ch.byte_all (P := fun x => x ≠ 10 → ((x.toNat : Int) == 10) = false) (by decide +kernel) x h
theorem w10 (x : UInt8) (h : x = 10) : ((x.toNat : Int) == 10) = true := by subst h; rfl
theorem v94 (x : UInt8) (h : x ≠ 94) : ((x.toNat : Int) == 94) = false := Ch.byte_all (P := fun x => x ≠ 94 → ((x.toNat : Int) == 94) = false) (by decide +kernel) x h
theorem w94 (x : UInt8) (h : x = 94) : ((x.toNat : Int) == 94) = true := by subst h; rfl
theorem v34 (x : UInt8) (h : x ≠ 34) : ((x.toNat : Int) == 34) = false := Ch.byte_all (P := fun x => x ≠ 34 → ((x.toNat : Int) == 34) = false) (by decide +kernel) x h
theorem w34 (x : UInt8) (h : x = 34) : ((x.toNat : Int) == 34) = true := by subst h; rfl
theorem esc_take (l : Row) (k : Nat) (x : UInt8) (h : l[k]? = some x) : esc (l.take (k + 1)) = esc (l.take k) ++ esc1 x := by
  obtain ⟨hl, hv⟩ := List.getElem?_eq_some_iff.1 h
  rw [List.take_succ_eq_append_getElem hl, esc_append, hv]
  simp [esc]
theorem esc_take_len (l : Row) (k : Nat) : (esc (l.take k)).length ≤ (esc l).length := by
  conv => rhs; rw [← List.take_append_drop k l, esc_append, List.length_append]
  omega

set_option maxHeartbeats 4000000 in
set_option maxRecDepth 100000 in
theorem writeValue_q (q : ByteArray) (Q : Bool) (B b : Nat) (l : Row) (v : ByteArray) (w : World) (hq : q = if Q = true then ⟨#[34]⟩ else ⟨#[]⟩) (hQ : sgn v.data.toList = Q) (h : Bd B b l w) (hlen : l.length + (wval v.data.toList).length ≤ 140737488355328) (hBw : B ≤ w.heap.size) (hs : v.size ≤ 9223372036854775807) :
    Calls Tryd.prog 57 #[.pointer (some ⟨b, 0, none⟩), .string v] w fun e w' => e = .returned (.tuple #[]) ∧ Bd B b (l ++ wval v.data.toList) w' ∧ Below B w w' ∧ KeptT w w' := by
  have hw : wval v.data.toList = q.data.toList ++ (esc v.data.toList ++ q.data.toList) := by
    rw [hq]; unfold wval; rw [hQ]
    cases Q <;> simp
  have hwl := congrArg List.length hw
  rw [List.length_append, List.length_append] at hwl
  have hqs : q.size = q.data.toList.length := Lib.size_eq q
  have hqsm : q.size ≤ 1 := by rw [hq]; cases Q <;> decide
  have cA := fun W => An.containsAny_all v ⟨#[44, 59, 58]⟩ asc3 (by decide) (by decide) W hs
  rw [show (⟨#[44, 59, 58]⟩ : ByteArray).data.toList = [44, 59, 58] from rfl, sgn_is, hQ] at cA
  obtain ⟨L1, hL1⟩ : ∃ L1, l ++ q.data.toList = L1 := ⟨_, rfl⟩
  have hl0 : L1.length = l.length + q.data.toList.length := by rw [← hL1, List.length_append]
  have hl1 : l.length + q.size ≤ 140737488355328 := by omega
  have hl2 : L1.length + (esc v.data.toList).length + q.size ≤ 140737488355328 := by omega
  have hfin : ∀ W, Bd B b (L1 ++ esc v.data.toList ++ q.data.toList) W → Bd B b (l ++ wval v.data.toList) W := fun W hW => by
    rw [hw, ← List.append_assoc, hL1, ← List.append_assoc]; exact hW
  clear hw hwl hqs hlen hQ hl0
  have key : ∀ W, Below w.heap.size w W → Calls Tryd.prog 33 #[.pointer (some ⟨b, 0, none⟩), .string q] W fun e w' => e = .returned (.tuple #[.int .i64 q.size, .nilIface]) ∧ Bd B b L1 w' ∧ Below B W w' ∧ KeptT W w' := fun W hW => by
    have := write_full B b l q W (h.kept hW) hl1 (by have := hW.size; omega)
    rwa [hL1] at this
  have key2 : ∀ W, Bd B b (L1 ++ esc v.data.toList) W → B ≤ W.heap.size → Calls Tryd.prog 33 #[.pointer (some ⟨b, 0, none⟩), .string q] W fun e w' => e = .returned (.tuple #[.int .i64 q.size, .nilIface]) ∧ Bd B b (L1 ++ esc v.data.toList ++ q.data.toList) w' ∧ Below B W w' ∧ KeptT W w' := fun W hW hB => by
    exact write_full B b _ q W hW (by rw [List.length_append]; omega) hB
  have hstep : ∀ (k : Nat) (x : UInt8) (a : Row), v.data.toList[k]? = some x → esc1 x = a → (L1 ++ esc (v.data.toList.take k)) ++ a = L1 ++ esc (v.data.toList.take (k + 1)) ∧ (L1 ++ esc (v.data.toList.take k)).length + a.length ≤ 140737488355328 := fun k x a hx ha => by
    have h1 := esc_take _ _ _ hx
    rw [ha] at h1
    have h2 := esc_take_len v.data.toList (k + 1)
    rw [h1, List.length_append] at h2
    refine ⟨by rw [h1, List.append_assoc], ?_⟩
    rw [List.length_append]; omega
  have hstep' := Lib.hid hstep
  have hfin' := Lib.hid hfin
  have key2' := Lib.hid key2
  clear hL1 hstep hfin key2
  cases Q
  all_goals
    subst hq
    simp only [Bool.false_eq_true, if_false, if_true] at *
    clear h
    go_enter Tryd.func57, Tryd.ntmps57
    go_wp2_with (go_at_call 43; refine (cA _).mono ?_; rintro e w1 ⟨rfl, hb1⟩)
    go_at_call 33
    refine (key _ hb1).mono ?_
    rintro e w2 ⟨rfl, hbd2, hb2, ht2⟩
    have hB2 : Below B w w2 := (hb1.mono hBw).trans hb2
    have hT2 : KeptT w w2 := (KeptT.of_below hb1).trans ht2
    clear hb1 hb2 ht2 key cA
    go_wp2
    go_loopw [5] (fun s5 wr => ∃ k : Nat, s5 = .int .i64 (k : Int) ∧ k ≤ v.size ∧ Bd B b (L1 ++ esc (v.data.toList.take k)) wr ∧ Below B w wr ∧ KeptT w wr) (fun s5 wr => v.size - (RowKit.intOf s5).toNat)
    case atStart => exact ⟨0, rfl, Nat.zero_le _, by simpa [esc] using hbd2, hB2, hT2⟩
    case round =>
      obtain ⟨k, rfl, hk, hbd, hbw, hkt⟩ := hrel
      have hBr : B ≤ wr.heap.size := Nat.le_trans hBw hbw.size
      have hkt' := Lib.hid hkt
      clear hkt
      by_cases hlt : k < v.size
      · have hg := Lib.data_getElem? v k hlt
        by_cases c1 : v[k]'hlt = 10
        · obtain ⟨e1, e2⟩ := hstep'.out k _ [94, 110] hg (by rw [c1]; rfl)
          have cW := write_full B b _ ⟨#[94, 110]⟩ wr hbd e2 hBr
          rw [show (⟨#[94, 110]⟩ : ByteArray).data.toList = [94, 110] from rfl, e1] at cW
          have d1 := w10 _ c1
          clear c1 hg e1 e2
          go_wp2_with (go_at_call 33; refine cW.mono ?_; rintro e w3 ⟨rfl, hbd3, hb3, ht3⟩)
          go_roundw
          case rel => exact ⟨k + 1, by go_num, by omega, hbd3, hbw.trans hb3, hkt'.out.trans ht3⟩
          case measure => simp [RowKit.intOf]; omega
        · have d1 := v10 _ c1
          by_cases c2 : v[k]'hlt = 94
          · obtain ⟨e1, e2⟩ := hstep'.out k _ [94, 94] hg (by rw [c2]; rfl)
            have cW := write_full B b _ ⟨#[94, 94]⟩ wr hbd e2 hBr
            rw [show (⟨#[94, 94]⟩ : ByteArray).data.toList = [94, 94] from rfl, e1] at cW
            have d2 := w94 _ c2
            clear c1 c2 hg e1 e2
            go_wp2_with (go_at_call 33; refine cW.mono ?_; rintro e w3 ⟨rfl, hbd3, hb3, ht3⟩)
            go_roundw
            case rel => exact ⟨k + 1, by go_num, by omega, hbd3, hbw.trans hb3, hkt'.out.trans ht3⟩
            case measure => simp [RowKit.intOf]; omega
          · have d2 := v94 _ c2
            by_cases c3 : v[k]'hlt = 34
            · obtain ⟨e1, e2⟩ := hstep'.out k _ [94, 39] hg (by rw [c3]; rfl)
              have cW := write_full B b _ ⟨#[94, 39]⟩ wr hbd e2 hBr
              rw [show (⟨#[94, 39]⟩ : ByteArray).data.toList = [94, 39] from rfl, e1] at cW
              have d3 := w34 _ c3
              clear c1 c2 c3 hg e1 e2
              go_wp2_with (go_at_call 33; refine cW.mono ?_; rintro e w3 ⟨rfl, hbd3, hb3, ht3⟩)
              go_roundw
              case rel => exact ⟨k + 1, by go_num, by omega, hbd3, hbw.trans hb3, hkt'.out.trans ht3⟩
              case measure => simp [RowKit.intOf]; omega
            · have d3 := v34 _ c3
              obtain ⟨e1, e2⟩ := hstep'.out k _ [v[k]'hlt] hg (by unfold esc1; rw [if_neg c1, if_neg c2, if_neg c3])
              have cW := byte_full B b _ (v[k]'hlt) wr hbd e2 hBr
              rw [e1] at cW
              clear c1 c2 c3 hg e1 e2
              go_wp2_with (go_at_call 34; refine cW.mono ?_; rintro e w3 ⟨rfl, hbd3, hb3, ht3⟩)
              go_roundw
              case rel => exact ⟨k + 1, by go_num, by omega, hbd3, hbw.trans hb3, hkt'.out.trans ht3⟩
              case measure => simp [RowKit.intOf]; omega
      · rw [List.take_of_length_le (by rw [← Lib.size_eq]; omega)] at hbd
        have cW := key2'.out wr hbd hBr
        go_wp2_with (go_at_call 33; refine cW.mono ?_; rintro e w3 ⟨rfl, hbd3, hb3, ht3⟩)
        go_end0
        exact ⟨rfl, hfin'.out _ hbd3, hbw.trans hb3, hkt'.out.trans ht3⟩
theorem writeValue_any (B b : Nat) (l : Row) (v : ByteArray) (w : World) (h : Bd B b l w) (hlen : l.length + (wval v.data.toList).length ≤ 140737488355328) (hBw : B ≤ w.heap.size) (hs : v.size ≤ 9223372036854775807) :
    Calls Tryd.prog 57 #[.pointer (some ⟨b, 0, none⟩), .string v] w fun e w' => e = .returned (.tuple #[]) ∧ Bd B b (l ++ wval v.data.toList) w' ∧ Below B w w' ∧ KeptT w w' :=
  writeValue_q _ _ B b l v w rfl rfl h hlen hBw hs
end Go.Proofs.YthkcjfoihieooaaDoor.Li
