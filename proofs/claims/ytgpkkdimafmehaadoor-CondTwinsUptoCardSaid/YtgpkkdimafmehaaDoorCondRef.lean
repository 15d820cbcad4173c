/-
  WALKS OF THE REFERENCE's Tag, Parse, trim.
-/
import Derived.Test.YtgpkkdimafmehaaDoorCondHold
import Derived.Laws.Strings2
set_option linter.unusedVariables false
namespace Go.Proofs.YtgpkkdimafmehaaDoor.Co
open Go.Lib Go.RowKit Go.Shelf

set_option maxHeartbeats 4000000 in
set_option maxRecDepth 100000 in
theorem refTag_any (z : Int) (w : World) (hz : -9223372036854775808 ≤ z ∧ z ≤ 9223372036854775807) :
    Calls Tryd.prog 10 #[.int .i64 z] w fun e w' => e = .returned (sv (tagI z)) ∧ Below w.heap.size w w' := by
  by_cases h1 : z < 1
  · rw [show tagI z = [] by unfold tagI; rw [if_pos (.inl h1)]]
    go_enter Tryd.func10, Tryd.ntmps10
    go_wp2
    go_ret
    exact ⟨rfl, Below.refl _ _⟩
  by_cases h2 : 4611686018427387904 < z
  · rw [show tagI z = [] by unfold tagI; rw [if_pos (.inr h2)]]
    go_enter Tryd.func10, Tryd.ntmps10
    go_wp2
    go_ret
    exact ⟨rfl, Below.refl _ _⟩
  rw [show tagI z = tagS z.toNat by unfold tagI; rw [if_neg (by omega)]]
  obtain ⟨n, rfl⟩ : ∃ n : Nat, z = (n : Int) := ⟨z.toNat, by omega⟩
  rw [Int.toNat_natCast]
  have cD := Ch.refDecimal_any n (by omega) w
  have hl := dec_len (n := n) (by omega)
  have hj := Lib.hid (join_tag n)
  have hw : IntKind.u64.wrap (n : Int) = (n : Int) := IntWalk.u64_in _ (by omega)
  have hb1 : ¬ 9223372036854775807 < (⟨#[34]⟩ : ByteArray).size + (⟨(decDigits n).toArray⟩ : ByteArray).size := by
    rw [Lib.size_eq, Lib.size_eq]; simp; omega
  have hb2 : ¬ 9223372036854775807 < ((⟨#[34]⟩ : ByteArray) ++ ⟨(decDigits n).toArray⟩).size + (⟨#[34]⟩ : ByteArray).size := by
    rw [ByteArray.size_append, Lib.size_eq, Lib.size_eq]; simp; omega
  clear hz hl
  go_enter Tryd.func10, Tryd.ntmps10
  go_wp2_with (go_at_call 20; refine cD.mono ?_; rintro e w' ⟨rfl, hb⟩)
  go_ret
  exact ⟨by rw [hj.out]; rfl, hb⟩

/-! ### Parse -/
theorem par_few {l : Row} (h : l.length < 3) : par l = 0 := by
  rcases par_form l with ⟨d, e, hp⟩ | ⟨_, h0⟩
  · have hd : d = [] := by
      have := congrArg List.length e
      simp at this
      exact List.eq_nil_of_length_eq_zero (by omega)
    rw [hp, hd]; rfl
  · exact h0
theorem par_head {s : ByteArray} (h : 0 < s.size) (hn : (s[0]'h).toNat ≠ 34) : par s.data.toList = 0 := by
  rcases par_form s.data.toList with ⟨d, e, _⟩ | ⟨_, h0⟩
  · exfalso
    apply hn
    have h1 : s.data.toList[0]'(by rw [← Lib.size_eq]; exact h) = s[0]'h := rfl
    have h2 : s.data.toList[0]? = some 34 := by rw [e]; rfl
    rw [List.getElem?_eq_getElem (by rw [← Lib.size_eq]; exact h), h1] at h2
    rw [Option.some.inj h2]; rfl
  · exact h0
theorem par_last {s : ByteArray} {N : Nat} (h : N < s.size) (hN : N + 1 = s.size) (hn : (s[N]'h).toNat ≠ 34) : par s.data.toList = 0 := by
  rcases par_form s.data.toList with ⟨d, e, _⟩ | ⟨_, h0⟩
  · exfalso
    apply hn
    have h1 : s.data.toList[N]'(by rw [← Lib.size_eq]; exact h) = s[N]'h := rfl
    have hl : N = d.length + 1 := by
      have := congrArg List.length e
      rw [← Lib.size_eq] at this
      simp at this
      omega
    have h2 : s.data.toList[N]? = some 34 := by
      rw [e, hl]
      simp
    rw [List.getElem?_eq_getElem (by rw [← Lib.size_eq]; exact h), h1] at h2
    rw [Option.some.inj h2]; rfl
  · exact h0
theorem par_mid {s : ByteArray} {N : Nat} (h0 : 0 < s.size) (h : N < s.size) (hN : N + 1 = s.size) (h2 : 2 ≤ N) (ha : (s[0]'h0).toNat = 34) (hb : (s[N]'h).toNat = 34) : par s.data.toList = (Ch.numS (s.extract 1 N).data.toList most).1 := by
  have hl : s.data.toList.length = N + 1 := by rw [← Lib.size_eq]; omega
  have e0 : s.data.toList = (s[0]'h0) :: s.data.toList.drop 1 := by
    have := List.drop_eq_getElem_cons (l := s.data.toList) (i := 0) (by omega)
    rw [List.drop_zero] at this
    exact this
  have e1 : s.data.toList.drop 1 = (s.extract 1 N).data.toList ++ [s[N]'h] := by
    have e2 : (s.extract 1 N).data.toList = (s.data.toList.drop 1).take (N - 1) := by rw [Lib.extract_data]
    rw [e2]
    conv => lhs; rw [← List.take_append_drop (N - 1) (s.data.toList.drop 1)]
    rw [List.drop_drop, show 1 + (N - 1) = N by omega, List.drop_eq_getElem_cons (by omega : N < s.data.toList.length), List.drop_of_length_le (by omega : s.data.toList.length ≤ N + 1)]
    rfl
  have e3 : s[0]'h0 = 34 := UInt8.toNat_inj.1 ha
  have e4 : s[N]'h = 34 := UInt8.toNat_inj.1 hb
  rw [e3] at e0
  rw [e4] at e1
  rw [e0, e1, par_marks]
set_option maxHeartbeats 4000000 in
set_option maxRecDepth 100000 in
theorem refParse_any (s : ByteArray) (w : World) (hs : s.size ≤ 9223372036854775807) :
    Calls Tryd.prog 11 #[.string s] w fun e w' => e = .returned (.int .i64 (par s.data.toList : Int)) ∧ w' = w := by
  obtain ⟨R, hR⟩ : ∃ R, par s.data.toList = R := ⟨_, rfl⟩
  rw [hR]
  by_cases h3 : s.size < 3
  · have h0 : R = 0 := by rw [← hR]; exact par_few (by rw [← Lib.size_eq]; exact h3)
    have h3' : (s.size : Int) < 3 := by omega
    have h0' := Lib.hid h0
    clear h0 hR
    go_enter Tryd.func11, Tryd.ntmps11
    go_wp2
    go_ret
    exact ⟨by rw [h0'.out]; rfl, rfl⟩
  have h3' : ¬ (s.size : Int) < 3 := by omega
  have hz : 0 < s.size := by omega
  obtain ⟨N, hN⟩ : ∃ N, s.size - 1 = N := ⟨_, rfl⟩
  have hlt : N < s.size := by omega
  have hNZ : (s.size : Int) - 1 = (N : Int) := by omega
  have hw : IntKind.i64.wrap (N : Int) = (N : Int) := IntWalk.i64_in _ (by omega)
  by_cases hA : (s[0]'hz).toNat = 34
  rotate_left
  · have h0 : R = 0 := by rw [← hR]; exact par_head hz hA
    have c1 : (((s[0]'hz).toNat : Int) != 34) = true := by simp; omega
    have h0' := Lib.hid h0
    clear h0 hR hA
    go_enter Tryd.func11, Tryd.ntmps11
    go_wp2
    go_ret
    exact ⟨by rw [h0'.out]; rfl, rfl⟩
  have c1 : (((s[0]'hz).toNat : Int) != 34) = false := by simp [hA]
  by_cases hB : (s[N]'hlt).toNat = 34
  rotate_left
  · have h0 : R = 0 := by rw [← hR]; exact par_last hlt (by omega) hB
    have c2 : (((s[N]'hlt).toNat : Int) != 34) = true := by simp; omega
    have h0' := Lib.hid h0
    clear h0 hR hA hB
    go_enter Tryd.func11, Tryd.ntmps11
    go_wp2
    go_ret
    exact ⟨by rw [h0'.out]; rfl, rfl⟩
  have c2 : (((s[N]'hlt).toNat : Int) != 34) = false := by simp [hB]
  have hp := par_mid hz hlt (by omega) (by omega) hA hB
  have hxs : (s.extract 1 N).size ≤ s.size := by simp; omega
  have cN := Ch.refNumber_any (s.extract 1 N) 4611686018427387904 w (by omega) (by decide)
  rw [show ((4611686018427387904 : Nat) : Int) = 4611686018427387904 from rfl] at cN
  unfold most at hp
  obtain ⟨⟨n, ok⟩, hn⟩ : ∃ p, Ch.numS (s.extract 1 N).data.toList 4611686018427387904 = p := ⟨_, rfl⟩
  have hle : n ≤ 4611686018427387904 := by have := Ch.numS_le (s.extract 1 N).data.toList 4611686018427387904; rw [hn] at this; exact this
  rw [hn] at cN hp
  unfold Ch.numE at cN
  have hRn : R = n := by rw [← hR, hp]
  have h1N : (1 : Int) ≤ (N : Int) := by omega
  have hlz : (N : Int) ≤ (s.size : Int) := by omega
  cases ok with
  | false =>
    have h0 : R = 0 := by rw [hRn]; exact num_no hn
    have h0' := Lib.hid h0
    clear hRn h0 hR hA hB hp hn hN
    go_enter Tryd.func11, Tryd.ntmps11
    go_wp2_with (go_at_call 21; refine cN.mono ?_; rintro e w' ⟨rfl, rfl⟩)
    go_ret
    exact ⟨by rw [h0'.out]; rfl, rfl⟩
  | true =>
    have h0' := Lib.hid hRn
    have hwn : IntKind.i64.wrap (n : Int) = (n : Int) := IntWalk.i64_in _ (by omega)
    clear hRn hR hA hB hp hn hN
    go_enter Tryd.func11, Tryd.ntmps11
    go_wp2_with (go_at_call 21; refine cN.mono ?_; rintro e w' ⟨rfl, rfl⟩)
    go_ret
    exact ⟨by rw [h0'.out]; rfl, rfl⟩

/-! ### trim -/
def backs (l : Row) : Row := (l.reverse.dropWhile bl).reverse
theorem bl_is {c : UInt8} {v : Nat} (h : c.toNat = v) : bl c = decide (v = 32 ∨ v = 9) := by
  show Ht.bl c = _
  unfold Ht.bl
  have e1 : (c == 32) = decide (v = 32) := by
    rw [Bool.eq_iff_iff, beq_iff_eq, decide_eq_true_iff, ← h]
    exact ⟨fun e => by rw [e]; rfl, fun e => UInt8.toNat_inj.1 e⟩
  have e2 : (c == 9) = decide (v = 9) := by
    rw [Bool.eq_iff_iff, beq_iff_eq, decide_eq_true_iff, ← h]
    exact ⟨fun e => by rw [e]; rfl, fun e => UInt8.toNat_inj.1 e⟩
  rw [e1, e2]
  simp
theorem drop_at {s : ByteArray} {a : Nat} (h : a < s.size) : s.data.toList.drop a = (s[a]'h) :: s.data.toList.drop (a + 1) :=
  List.drop_eq_getElem_cons (l := s.data.toList) (i := a) (by rw [← Lib.size_eq]; exact h)
/-- what lies between a and b -/
def mid (s : ByteArray) (a b : Nat) : Row := (s.data.toList.drop a).take (b - a)
theorem mid_last {s : ByteArray} {a b N : Nat} (hab : a < b) (hN : N + 1 = b) (h : N < s.size) : mid s a b = mid s a N ++ [s[N]'h] := by
  unfold mid
  subst hN
  rw [show N + 1 - a = (N - a) + 1 by omega, List.take_succ_eq_append_getElem (by rw [List.length_drop, ← Lib.size_eq]; omega)]
  congr 2
  rw [List.getElem_drop]
  show s.data.toList[a + (N - a)]'_ = s.data.toList[N]'_
  congr 1
  omega
theorem mid_ext {s : ByteArray} {a b : Nat} : Value.string (s.extract a b) = sv (mid s a b) := by
  rw [← sv_data]
  congr 1
  rw [Lib.extract_data]; rfl
theorem backs_snoc (l : Row) (c : UInt8) : backs (l ++ [c]) = if bl c = true then backs l else l ++ [c] := by
  unfold backs
  rw [List.reverse_append, List.reverse_singleton, List.singleton_append, List.dropWhile_cons]
  split
  · rfl
  · simp
set_option maxHeartbeats 8000000 in
set_option maxRecDepth 100000 in
theorem refTrim_any (s : ByteArray) (w : World) (hs : s.size ≤ 9223372036854775807) :
    Calls Tryd.prog 24 #[.string s] w fun e w' => e = .returned (sv (trim s.data.toList)) ∧ w' = w := by
  have ht : trim s.data.toList = backs (s.data.toList.dropWhile bl) := rfl
  rw [ht]
  obtain ⟨X, hX⟩ : ∃ X, s.data.toList.dropWhile bl = X := ⟨_, rfl⟩
  rw [hX]
  obtain ⟨Y, hY⟩ : ∃ Y, backs X = Y := ⟨_, rfl⟩
  rw [hY]
  have hY' := Lib.hid hY
  have hX' := Lib.hid hX
  clear ht hX hY
  go_enter Tryd.func24, Tryd.ntmps24
  go_wp2
  go_loopw [3] (fun s3 wr => ∃ a : Nat, s3 = .int .i64 (a : Int) ∧ a ≤ s.size ∧ (s.data.toList.drop a).dropWhile bl = X ∧ wr = w) (fun s3 wr => s.size - (RowKit.intOf s3).toNat)
  case atStart => exact ⟨0, rfl, Nat.zero_le _, hX'.out, rfl⟩
  case round =>
    obtain ⟨a, rfl, ha, hall, rfl⟩ := hrel
    have hcase : (∃ (h : a < s.size) (v : Nat), (s[a]'h).toNat = v ∧ (v = 32 ∨ v = 9)) ∨ (s.data.toList.drop a = X ∧ (a = s.size ∨ ∃ (h : a < s.size) (v : Nat), (s[a]'h).toNat = v ∧ ¬ (v = 32 ∨ v = 9))) := by
      by_cases hz : a < s.size
      · by_cases h1 : (s[a]'hz).toNat = 32 ∨ (s[a]'hz).toNat = 9
        · exact .inl ⟨hz, _, rfl, h1⟩
        · refine .inr ⟨?_, .inr ⟨hz, _, rfl, h1⟩⟩
          rw [← hall, drop_at hz, List.dropWhile_cons, if_neg (by rw [bl_is rfl, decide_eq_false h1]; decide)]
      · refine .inr ⟨?_, .inl (by omega)⟩
        rw [List.drop_of_length_le (by rw [← Lib.size_eq]; omega)] at hall ⊢
        exact hall
    rcases hcase with ⟨hz, v, hv, h1⟩ | ⟨hst, hcase⟩
    · have hnx : (s.data.toList.drop (a + 1)).dropWhile bl = X := by
        rw [← hall, drop_at hz, List.dropWhile_cons, if_pos (by rw [bl_is hv, decide_eq_true h1])]
      have hnx' := Lib.hid hnx
      clear hall hnx
      rcases h1 with h1 | h1
      · go_wp2
        go_roundw
        case rel => exact ⟨a + 1, by go_num, by omega, hnx'.out, trivial⟩
        case measure => simp [RowKit.intOf]; omega
      · have c5 : ((v : Int) == 32) = false := beq_false_of_ne (by omega)
        go_wp2
        go_roundw
        case rel => exact ⟨a + 1, by go_num, by omega, hnx'.out, trivial⟩
        case measure => simp [RowKit.intOf]; omega
    · have hst' := Lib.hid hst
      have h2 : mid s a s.size = X := by
        unfold mid
        rw [List.take_of_length_le (by rw [List.length_drop, ← Lib.size_eq]; exact Nat.le_refl _), hst]
      have h2' := Lib.hid h2
      clear hall hst h2
      rcases hcase with hz | ⟨hz, v, hv, h1⟩
      · have c0 : ¬ (a : Int) < (s.size : Int) := by omega
        have hfin : sv Y = .string ByteArray.empty := by
          rw [← hY'.out, ← hst'.out, List.drop_of_length_le (by rw [← Lib.size_eq]; omega)]; rfl
        have hfin' := Lib.hid hfin
        have c1 : ¬ (s.size : Int) > (a : Int) := by omega
        have c2 : ¬ (a : Int) < (s.size : Int) := by omega
        have c3 : (a : Int) ≤ (s.size : Int) := by omega
        clear hfin
        go_wp2
        go_loopw [4] (fun s4 wr' => s4 = .int .i64 (s.size : Int) ∧ wr' = wr) (fun s4 wr => 0)
        case atStart => exact ⟨rfl, rfl⟩
        case round =>
          obtain ⟨rfl, rfl⟩ := hrel
          go_wp2
          go_ret
          exact ⟨by rw [hfin'.out]; rfl, rfl⟩
      · have c5 : ((v : Int) == 32) = false := beq_false_of_ne (by omega)
        have c6 : ((v : Int) == 9) = false := beq_false_of_ne (by omega)
        go_wp2
        go_loopw [4] (fun s4 wr' => ∃ b : Nat, s4 = .int .i64 (b : Int) ∧ a ≤ b ∧ b ≤ s.size ∧ backs (mid s a b) = Y ∧ wr' = wr) (fun s4 wr => (RowKit.intOf s4).toNat)
        case atStart => exact ⟨s.size, rfl, ha, Nat.le_refl _, by rw [h2'.out]; exact hY'.out, rfl⟩
        case round =>
          obtain ⟨b, rfl, hab, hb, hall, rfl⟩ := hrel
          clear c5 c6 h1 hv
          have z1 : (a : Int) ≤ (b : Int) := by omega
          have z2 : (b : Int) ≤ (s.size : Int) := by omega
          by_cases hz2 : a < b
          · obtain ⟨N, hN⟩ : ∃ N, b - 1 = N := ⟨_, rfl⟩
            have hlt : N < s.size := by omega
            have hNZ : (b : Int) - 1 = (N : Int) := by omega
            have hw : IntKind.i64.wrap (N : Int) = (N : Int) := IntWalk.i64_in _ (by omega)
            have hml := mid_last hz2 (show N + 1 = b by omega) hlt
            have hbs := backs_snoc (mid s a N) (s[N]'hlt)
            rw [← hml, hall] at hbs
            obtain ⟨x, hx⟩ : ∃ x, (s[N]'hlt).toNat = x := ⟨_, rfl⟩
            by_cases h1 : x = 32 ∨ x = 9
            · rw [if_pos (by rw [bl_is hx, decide_eq_true h1])] at hbs
              have hnx := Lib.hid hbs.symm
              clear hall hbs hml hN
              rcases h1 with h1 | h1
              · go_wp2
                go_roundw
                case rel => exact ⟨N, by go_num, by omega, by omega, hnx.out, trivial⟩
                case measure => simp [RowKit.intOf]; omega
              · have c5 : ((x : Int) == 32) = false := beq_false_of_ne (by omega)
                go_wp2
                go_roundw
                case rel => exact ⟨N, by go_num, by omega, by omega, hnx.out, trivial⟩
                case measure => simp [RowKit.intOf]; omega
            · rw [if_neg (by rw [bl_is hx, decide_eq_false h1]; decide)] at hbs
              have hfin : Value.string (s.extract a b) = sv Y := by rw [mid_ext, hbs]
              have hfin' := Lib.hid hfin
              have c5 : ((x : Int) == 32) = false := beq_false_of_ne (by omega)
              have c6 : ((x : Int) == 9) = false := beq_false_of_ne (by omega)
              clear hall hbs hml hN hfin
              go_wp2
              go_ret
              exact ⟨by rw [← hfin'.out]; rfl, rfl⟩
          · have hfin : Value.string (s.extract a b) = sv Y := by
              rw [mid_ext, ← hall]
              unfold mid
              rw [show b - a = 0 by omega]; rfl
            have hfin' := Lib.hid hfin
            clear hall hfin
            go_wp2
            go_ret
            exact ⟨by rw [← hfin'.out]; rfl, rfl⟩
end Go.Proofs.YtgpkkdimafmehaaDoor.Co
