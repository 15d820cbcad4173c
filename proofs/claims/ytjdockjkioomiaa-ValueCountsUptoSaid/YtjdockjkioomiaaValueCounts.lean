/-
  THE LAW ValueCounts.
-/
import Derived.Test.YtjdockjkioomiaaValueFirst
set_option linter.unusedVariables false
namespace Go.Proofs.Ytjdockjkioomiaa.Va
open Go.Lib Go.RowKit Bu

theorem cnt_cons (m : UInt8) (x : Sg) (l : List Sg) : cnt m (x :: l) = cnt m l + (if x = (m, false) then 1 else 0) := by
  unfold cnt; rw [List.countP_cons]
  by_cases h : x = (m, false) <;> simp [h]
theorem cnt_kept (m d : UInt8) (l : List Sg) : cnt m ((d, true) :: l) = cnt m l := by rw [cnt_cons, if_neg (by simp)]; omega
theorem cnt_yes (m : UInt8) (l : List Sg) : cnt m ((m, false) :: l) = cnt m l + 1 := by rw [cnt_cons, if_pos rfl]
theorem cnt_no (m x : UInt8) (l : List Sg) (h : x ≠ m) : cnt m ((x, false) :: l) = cnt m l := by rw [cnt_cons, if_neg (by simpa using h)]; omega
/-- how the count stands: fields, texts, the place -/
def CntAt (s : Row) (l : List Sg) (f t i : Nat) : Prop :=
  ∃ r, signs (s.drop i) = some r ∧ f + cnt 59 r = cnt 59 l + 1 ∧ t + (cnt 44 r + cnt 59 r) = cnt 44 l + (cnt 59 l + 1)
theorem CntAt.esc {s : ByteArray} {l : List Sg} {f t i : Nat} (h : CntAt s.data.toList l f t i) (hi : i < s.size) (hc : s[i]'hi = 92) : i + 2 ≤ s.size ∧ CntAt s.data.toList l f t (i + 2) := by
  obtain ⟨r, h1, h2, h3⟩ := h
  rw [drop_head s i hi, hc] at h1
  cases hd : s.data.toList.drop (i + 1) with
  | nil => rw [hd, signs_end] at h1; cases h1
  | cons c u =>
    have hl := congrArg List.length hd
    rw [List.length_drop, List.length_cons, ← Lib.size_eq] at hl
    rw [hd, signs_esc] at h1
    obtain ⟨d, _, h1⟩ := Option.bind_eq_some_iff.1 h1
    obtain ⟨r', hr, rfl⟩ := Option.map_eq_some_iff.1 h1
    rw [cnt_kept] at h2
    rw [cnt_kept, cnt_kept] at h3
    refine ⟨by omega, r', ?_, h2, h3⟩
    have : s.data.toList.drop (i + 2) = u := by
      rw [show i + 2 = i + 1 + 1 by omega, ← List.drop_drop, hd]; rfl
    rw [this]; exact hr
theorem CntAt.own {s : ByteArray} {l : List Sg} {f t i : Nat} (h : CntAt s.data.toList l f t i) (hi : i < s.size) (hc : s[i]'hi ≠ 92) :
    (s[i]'hi = 59 → CntAt s.data.toList l (f + 1) (t + 1) (i + 1)) ∧ (s[i]'hi = 44 → CntAt s.data.toList l f (t + 1) (i + 1)) ∧ (s[i]'hi ≠ 59 → s[i]'hi ≠ 44 → CntAt s.data.toList l f t (i + 1)) := by
  obtain ⟨r, h1, h2, h3⟩ := h
  rw [drop_head s i hi, signs_own _ _ hc] at h1
  obtain ⟨r', hr, rfl⟩ := Option.map_eq_some_iff.1 h1
  refine ⟨fun h => ⟨r', hr, ?_, ?_⟩, fun h => ⟨r', hr, ?_, ?_⟩, fun h k => ⟨r', hr, ?_, ?_⟩⟩
  · rw [h, cnt_yes] at h2; omega
  · rw [h, cnt_yes, cnt_no 44 59 _ (by decide)] at h3; omega
  · rw [h, cnt_no 59 44 _ (by decide)] at h2; omega
  · rw [h, cnt_yes, cnt_no 59 44 _ (by decide)] at h3; omega
  · rw [cnt_no 59 _ _ h] at h2; omega
  · rw [cnt_no 59 _ _ h, cnt_no 44 _ _ k] at h3; omega
theorem sum_take {α : Type} (f : α → Nat) (xs : List α) (k : Nat) (x : α) (h : xs[k]? = some x) : ((xs.take (k + 1)).map f).sum = ((xs.take k).map f).sum + f x := by
  obtain ⟨hl, hv⟩ := List.getElem?_eq_some_iff.1 h
  rw [List.take_succ_eq_append_getElem hl, hv, List.map_append, List.sum_append]; simp
theorem sum_take_le {α : Type} (f : α → Nat) (xs : List α) (k : Nat) : ((xs.take k).map f).sum ≤ (xs.map f).sum := by
  conv => rhs; rw [← List.take_append_drop k xs, List.map_append, List.sum_append]
  omega

set_option maxHeartbeats 4000000 in
set_option maxRecDepth 100000 in
theorem counts_walk (s : ByteArray) (w : World) (hs : s.size ≤ 1048576) :
    Calls Try.prog 7 #[.string s] w fun e w' => e = .returned (.bool true) ∧ Below w.heap.size w w' := by
  have cF := fun W => fields_any s W (by omega)
  go_enter Try.func7, Try.ntmps7
  go_wp2_with fail
  go_at_call 8
  refine (first_any w).mono ?_
  rintro e w1 ⟨rfl, hb1⟩
  go_wp2_with fail
  go_at_call 12
  refine (cF _).mono ?_
  rintro e w2 ⟨hF, hb2⟩
  have hB2 := below_then hb1 hb2
  clear cF hb1 hb2
  rcases hF with ⟨h1, rfl⟩ | ⟨v, fs, h1, rfl, ho⟩
  · clear h1
    go_wp2
    go_ret
    exact ⟨rfl, hB2⟩
  · unfold fields at h1
    obtain ⟨l, hl, rfl⟩ := Option.map_eq_some_iff.1 h1
    have hll := signs_len _ _ l (Nat.le_refl _) hl
    rw [← Lib.size_eq] at hll
    have q1 := cnt_le 59 l
    have q2 := cnt_le 44 l
    have hfl := fldS_len l
    have hfa := fldS_all l
    obtain ⟨A, b, off, c, rfl, k1, k2, k3, k4⟩ := LOwn.at ho
    obtain ⟨n, hn⟩ : ∃ n, (fldS l).length = n := ⟨_, rfl⟩
    rw [hn] at k1 k3 hfl ⊢
    have h0 : CntAt s.data.toList l 1 1 0 := ⟨l, by simpa using hl, by omega, by omega⟩
    have h0' := Lib.hid h0
    have hn' := Lib.hid hn
    have hfl' := Lib.hid hfl
    have hfa' := Lib.hid hfa
    have k3' := Lib.hid k3
    have k4' := Lib.hid k4
    unfold maxLen at k2
    clear h1 hl ho hn h0 hfl hfa k3 k4
    go_wp2
    go_loopw [5, 6, 7] (fun s5 s6 s7 wr => ∃ f t i : Nat, s5 = .int .i64 (f : Int) ∧ s6 = .int .i64 (t : Int) ∧ s7 = .int .i64 (i : Int) ∧ i ≤ s.size ∧ f ≤ i + 1 ∧ t ≤ i + 1 ∧ CntAt s.data.toList l f t i ∧ w2 = wr) (fun s5 s6 s7 wr => s.size - (RowKit.intOf s7).toNat)
    case atStart => exact ⟨1, 1, 0, rfl, rfl, rfl, Nat.zero_le _, by omega, by omega, h0'.out, rfl⟩
    case round =>
      obtain ⟨f, t, i, rfl, rfl, rfl, hi, hfi, hti, hC, rfl⟩ := hrel
      by_cases hlt : i < s.size
      · by_cases c1 : s[i]'hlt = 92
        · have d1 : ((((s[i]'hlt).toNat : Nat) : Int) == 92) = true := ty (m := 92) rfl c1
          obtain ⟨g1, g2⟩ := hC.esc hlt c1
          have g2' := Lib.hid g2
          clear c1 hC g2
          go_wp2
          go_roundw
          case rel => exact ⟨f, t, i + 2, rfl, rfl, by go_num, by omega, by omega, by omega, g2'.out, by trivial⟩
          case measure => simp [RowKit.intOf]; omega
        · have d1 : ((((s[i]'hlt).toNat : Nat) : Int) == 92) = false := tn (m := 92) rfl c1
          obtain ⟨g1, g2, g3⟩ := hC.own hlt c1
          by_cases c2 : s[i]'hlt = 59
          · have d2 : ((((s[i]'hlt).toNat : Nat) : Int) == 59) = true := ty (m := 59) rfl c2
            have g := Lib.hid (g1 c2)
            clear c1 c2 hC g1 g2 g3
            go_wp2
            go_roundw
            case rel => exact ⟨f + 1, t + 1, i + 1, by go_num, by go_num, by go_num, by omega, by omega, by omega, g.out, by trivial⟩
            case measure => simp [RowKit.intOf]; omega
          · have d2 : ((((s[i]'hlt).toNat : Nat) : Int) == 59) = false := tn (m := 59) rfl c2
            by_cases c3 : s[i]'hlt = 44
            · have d3 : ((((s[i]'hlt).toNat : Nat) : Int) == 44) = true := ty (m := 44) rfl c3
              have g := Lib.hid (g2 c3)
              clear c1 c2 c3 hC g1 g2 g3
              go_wp2
              go_roundw
              case rel => exact ⟨f, t + 1, i + 1, rfl, by go_num, by go_num, by omega, by omega, by omega, g.out, by trivial⟩
              case measure => simp [RowKit.intOf]; omega
            · have d3 : ((((s[i]'hlt).toNat : Nat) : Int) == 44) = false := tn (m := 44) rfl c3
              have g := Lib.hid (g3 c2 c3)
              clear c1 c2 c3 hC g1 g2 g3
              go_wp2
              go_roundw
              case rel => exact ⟨f, t, i + 1, rfl, rfl, by go_num, by omega, by omega, by omega, g.out, by trivial⟩
              case measure => simp [RowKit.intOf]; omega
      · have hft : f = n ∧ t = ((fldS l).map List.length).sum := by
          obtain ⟨r, g1, g2, g3⟩ := hC
          rw [List.drop_eq_nil_of_le (by rw [← Lib.size_eq]; omega), signs_nil] at g1
          obtain rfl := Option.some.inj g1
          rw [hfa'.out, hfl'.out]
          simp only [cnt, List.countP_nil] at g2 g3
          simp only [cnt]
          omega
        obtain ⟨rfl, ht⟩ := hft
        have ht' := Lib.hid ht
        clear hC ht
        go_wp2
        go_loopw [8, 48] (fun s8 s48 wr => ∃ k : Nat, s8 = .int .i64 ((((fldS l).take k).map List.length).sum : Nat) ∧ s48 = .int .i64 (k : Int) ∧ k ≤ f ∧ w2 = wr) (fun s8 s48 wr => f - (RowKit.intOf s48).toNat)
        case atStart => exact ⟨0, rfl, rfl, Nat.zero_le _, rfl⟩
        case round =>
          obtain ⟨k, rfl, rfl, hk, rfl⟩ := hrel
          have hle := sum_take_le List.length (fldS l) k
          by_cases hlt2 : k < f
          · have hx : (fldS l)[k]? = some ((fldS l)[k]'(by have := hn'.out; omega)) := List.getElem?_eq_getElem _
            obtain ⟨x, hxe⟩ : ∃ x, (fldS l)[k]'(by have := hn'.out; omega) = x := ⟨_, rfl⟩
            rw [hxe] at hx
            have hst := sum_take List.length (fldS l) k x hx
            have hle1 := sum_take_le List.length (fldS l) (k + 1)
            rw [← ht'.out] at hle1
            obtain ⟨rfl, hg⟩ := k3'.out (by omega)
            obtain ⟨u, hu, hsx⟩ := k4'.out k x hx
            obtain ⟨A2, b2, o2, c2, rfl, _⟩ := hsx
            obtain ⟨N, hN⟩ : ∃ N, (((fldS l).take k).map List.length).sum = N := ⟨_, rfl⟩
            rw [hN] at hst hle ⊢
            rw [hst] at hle1
            have hst' := Lib.hid hst
            clear hxe hx hst hN hle
            go_wp2
            go_roundw
            case rel => exact ⟨k + 1, by rw [hst'.out]; go_num, by go_num, by omega, by trivial⟩
            case measure => simp [RowKit.intOf]; omega
          · obtain rfl : k = f := by omega
            rw [List.take_of_length_le (by have := hn'.out; omega), ← ht'.out]
            clear hle
            go_wp2
            go_ret
            exact ⟨rfl, hB2⟩
end Go.Proofs.Ytjdockjkioomiaa.Va
