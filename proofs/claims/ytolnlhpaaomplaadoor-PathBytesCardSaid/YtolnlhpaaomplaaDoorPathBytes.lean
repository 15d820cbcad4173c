/-
  THE WALK OF THE LAW PathBytes.
-/
import Derived.Test.YtolnlhpaaomplaaDoorPathSpec
set_option linter.unusedVariables false
namespace Go.Proofs.YtolnlhpaaomplaaDoor.Pa
open Go.Lib Go.RowKit

theorem escA_take (h : Row) (s : ByteArray) (k : Nat) (hk : k < s.size) : escA h (s.data.toList.take (k + 1)) = escA h (s.data.toList.take k) ++ escH h (s[k]'hk) := by
  rw [take_snoc s k hk]; unfold escA; simp
theorem escA_len (h : Row) : ∀ (t : Row), (escA h t).length = 3 * t.length
  | [] => rfl
  | c :: t => by
    have e : escA h (c :: t) = escH h c ++ escA h t := by simp [escA]
    rw [e, List.length_append, escA_len h t]; simp [escH]; omega
/-- a digit, cut out of the sixteen small ones -/
theorem hexL_cut : ∀ q : Fin 16, ((⟨#[48, 49, 50, 51, 52, 53, 54, 55, 56, 57, 97, 98, 99, 100, 101, 102]⟩ : ByteArray).extract q.val (q.val + 1)).data.toList = [hexL.getD q.val 0] := by decide +kernel

set_option maxHeartbeats 8000000 in
set_option maxRecDepth 100000 in
theorem bytes_walk (cO : OfC) (cP : ParseC) (cR : RootC) (s : ByteArray) (g : Bool) (hs : s.size ≤ mostS) (w : World) (hT : Ch.Tabs w) :
    Calls Tryd.prog 6 #[.string s, .bool g] w fun e w' => e = .returned (.bool true) ∧ Below w.heap.size w w' := by
  have cF := first_any cO cP cR w hT
  have c3 := fun W => refFits_any s W (by unfold mostS at hs; omega)
  have c6' := Lib.hid (fun (p : ByteArray) (W : World) (hp : p.size ≤ 1000) (hW : Below w.heap.size w W) => cP p W (by unfold mostS; omega) (Ch.tabs_below hT hW))
  clear hT hs
  by_cases hf : fits s.data.toList = true
  · rw [hf] at c3
    have hcl := fits_len hf
    rw [← Lib.size_eq] at hcl
    have hf' := Lib.hid hf
    clear hf
    cases g with
    | true =>
      have hP := Lib.hid (parse_escA hexU hexv_U hexU_no hf'.out)
      go_enter Tryd.func6, Tryd.ntmps6
      go_wp2_with fail
      go_at_call 7
      with_reducible refine cF.mono ?_
      rintro e w1 ⟨rfl, hb1⟩
      have hb1' := Lib.hid hb1
      clear cF hb1
      go_wp2_with fail
      go_at_call 9
      with_reducible refine (c3 _).mono ?_
      rintro e w2 ⟨rfl, rfl⟩
      clear c3
      go_wp2
      go_loopw [6, 7] (fun s6 s7 wr => ∃ (k : Nat) (acc : ByteArray), s6 = .string acc ∧ s7 = .int .i64 (k : Int) ∧ k ≤ s.size ∧ acc.data.toList = 47 :: escA hexU (s.data.toList.take k) ∧ Below w.heap.size w wr) (fun s6 s7 wr => s.size - (RowKit.intOf s7).toNat)
      case atStart => exact ⟨0, _, rfl, rfl, Nat.zero_le _, rfl, hb1'.out⟩
      case round =>
        obtain ⟨k, acc, rfl, rfl, hk, hacc, hB⟩ := hrel
        have hal : acc.size ≤ 3 * k + 1 := by
          have h1 := escA_len hexU (s.data.toList.take k)
          rw [Lib.size_eq, hacc, List.length_cons, h1, List.length_take]
          omega
        have hB' := Lib.hid hB
        clear hB
        by_cases hlt : k < s.size
        · obtain ⟨A, hA⟩ : ∃ A, k + 1 = A := ⟨_, rfl⟩
          have hst := escA_take hexU s k hlt
          rw [hA] at hst
          obtain ⟨c, hc⟩ : ∃ c, s[k]'hlt = c := ⟨_, rfl⟩
          rw [hc] at hst
          have hAI : (k : Int) + 1 = (A : Int) := by omega
          have j6 : A ≤ s.size := by omega
          have j7 : k < A := by omega
          obtain ⟨v, hv⟩ : ∃ v, c.toNat = v := ⟨_, rfl⟩
          have hv256 : v < 256 := by rw [← hv]; exact c.toNat_lt
          obtain ⟨q, hq⟩ : ∃ q, v / 16 = q := ⟨_, rfl⟩
          obtain ⟨r, hr⟩ : ∃ r, v % 16 = r := ⟨_, rfl⟩
          have hq16 : q < 16 := by omega
          have hr16 : r < 16 := by omega
          have d1 : (v : Int) / 16 = (q : Int) := by omega
          have d2 : (v : Int) % 16 = (r : Int) := by omega
          obtain ⟨Q, hQ⟩ : ∃ Q, q + 1 = Q := ⟨_, rfl⟩
          obtain ⟨R, hR⟩ : ∃ R, r + 1 = R := ⟨_, rfl⟩
          have d3 : (q : Int) + 1 = (Q : Int) := by omega
          have d4 : (r : Int) + 1 = (R : Int) := by omega
          have e1 := hexU_cut ⟨q, hq16⟩
          have e2 := hexU_cut ⟨r, hr16⟩
          simp only at e1 e2
          rw [hQ] at e1
          rw [hR] at e2
          obtain ⟨x1, hx1⟩ : ∃ x, (⟨#[48, 49, 50, 51, 52, 53, 54, 55, 56, 57, 65, 66, 67, 68, 69, 70]⟩ : ByteArray).extract q Q = x := ⟨_, rfl⟩
          obtain ⟨x2, hx2⟩ : ∃ x, (⟨#[48, 49, 50, 51, 52, 53, 54, 55, 56, 57, 65, 66, 67, 68, 69, 70]⟩ : ByteArray).extract r R = x := ⟨_, rfl⟩
          rw [hx1] at e1
          rw [hx2] at e2
          have z1 : x1.size = 1 := by rw [Lib.size_eq, e1]; rfl
          have z2 : x2.size = 1 := by rw [Lib.size_eq, e2]; rfl
          obtain ⟨y1, hy1⟩ : ∃ y, (⟨#[37]⟩ : ByteArray) ++ x1 = y := ⟨_, rfl⟩
          have hy1d := cat_data _ _ _ hy1
          have y1s : y1.size = 2 := by rw [Lib.size_eq, hy1d, e1]; rfl
          obtain ⟨y2, hy2⟩ : ∃ y, y1 ++ x2 = y := ⟨_, rfl⟩
          have hy2d := cat_data _ _ _ hy2
          have y2s : y2.size = 3 := by rw [Lib.size_eq, hy2d, hy1d, e1, e2]; rfl
          obtain ⟨y3, hy3⟩ : ∃ y, acc ++ y2 = y := ⟨_, rfl⟩
          have hn := Lib.hid (show y3.data.toList = 47 :: escA hexU (s.data.toList.take A) by
            rw [hst, cat_data _ _ _ hy3, hy2d, hy1d, e1, e2, hacc]
            unfold escH
            rw [hv, hq, hr]; rfl)
          have n1 : ¬ 9223372036854775807 < (⟨#[37]⟩ : ByteArray).size + x1.size := by rw [z1]; decide
          have n2 : ¬ 9223372036854775807 < y1.size + x2.size := by omega
          have n3 : ¬ 9223372036854775807 < acc.size + y2.size := by omega
          have k1 : (0 : Int) ≤ (q : Int) := by omega
          have k2 : (0 : Int) ≤ (r : Int) := by omega
          have k3 : ¬ (Q : Int) < (q : Int) := by omega
          have k4 : ¬ (R : Int) < (r : Int) := by omega
          have k5 : (q : Int) ≤ (Q : Int) := by omega
          have k6 : (r : Int) ≤ (R : Int) := by omega
          have k7 : (Q : Int) ≤ 16 := by omega
          have k8 : (R : Int) ≤ 16 := by omega
          clear hst hacc hA e1 e2 z1 z2 hy1d y1s hy2d y2s hq hr hQ hR hP
          subst hv
          go_wp2_with fail
          go_quiet (fail)
          go_wp2
          go_roundw
          case rel => exact ⟨A, y3, rfl, rfl, j6, hn.out, below_drewN _ hB'.out⟩
          case measure => simp [RowKit.intOf]; omega
        · have hfull : acc.data.toList = 47 :: escA hexU s.data.toList := by rw [hacc, List.take_of_length_le (by rw [← Lib.size_eq]; omega)]
          obtain ⟨p1, hp1⟩ : ∃ y, acc ++ (⟨#[47]⟩ : ByteArray) = y := ⟨_, rfl⟩
          obtain ⟨p2, hp2⟩ : ∃ y, acc ++ acc = y := ⟨_, rfl⟩
          have p1d := cat_data _ _ _ hp1
          have p2d := cat_data _ _ _ hp2
          have p1s := cat_size _ _ _ hp1
          have p2s := cat_size _ _ _ hp2
          rw [show (⟨#[47]⟩ : ByteArray).size = 1 from rfl] at p1s
          have m1 : ¬ 9223372036854775807 < acc.size + 1 := by omega
          have m2 : ¬ 9223372036854775807 < acc.size + acc.size := by omega
          have q1 := hP.out.1
          have q2 := hP.out.2
          rw [show 47 :: (escA hexU s.data.toList ++ [47]) = p1.data.toList by rw [p1d, hfull]; rfl] at q1
          rw [show 47 :: (escA hexU s.data.toList ++ 47 :: escA hexU s.data.toList) = p2.data.toList by rw [p2d, hfull]; rfl] at q2
          have q1' := Lib.hid q1
          have q2' := Lib.hid q2
          have d6 := c6'.out p1 wr (by omega) hB'.out
          have p2b : p2.size ≤ 1000 := by omega
          clear hfull hacc p1d p2d p1s p2s q1 q2 hP
          go_wp2_with fail
          go_at_call 13
          with_reducible refine d6.mono ?_
          rintro e w6 ⟨ht, hb6⟩
          have hb6' := below_then hB'.out hb6
          have d7 := c6'.out p2 w6 p2b hb6'
          have hb6'' := Lib.hid hb6'
          clear hb6 d6 hb6'
          rcases ht with ⟨hno, rfl⟩ | ⟨a, b, hv, rfl⟩
          · rw [q1'.out] at hno; cases hno
          · rw [q1'.out] at hv
            have h3 := Option.some.inj hv
            injection h3 with h3 h4
            obtain rfl := data_is h3
            obtain rfl : b = ⟨#[]⟩ := data_is h4.symm
            clear h3 h4 hv
            go_wp2_with fail
            go_at_call 13
            with_reducible refine d7.mono ?_
            rintro e w7 ⟨ht, hb7⟩
            have hb7' := Lib.hid (below_then hb6''.out hb7)
            clear hb7 d7
            rcases ht with ⟨hno, rfl⟩ | ⟨a, b, hv, rfl⟩
            · rw [q2'.out] at hno; cases hno
            · rw [q2'.out] at hv
              have h3 := Option.some.inj hv
              injection h3 with h3 h4
              obtain rfl := data_is h3
              obtain rfl := data_is h4
              clear h3 h4 hv
              go_wp2
              go_ret
              exact ⟨rfl, hb7'.out⟩
    | false =>
      have hP := Lib.hid (parse_escA hexL hexv_L hexL_no hf'.out)
      go_enter Tryd.func6, Tryd.ntmps6
      go_wp2_with fail
      go_at_call 7
      with_reducible refine cF.mono ?_
      rintro e w1 ⟨rfl, hb1⟩
      have hb1' := Lib.hid hb1
      clear cF hb1
      go_wp2_with fail
      go_at_call 9
      with_reducible refine (c3 _).mono ?_
      rintro e w2 ⟨rfl, rfl⟩
      clear c3
      go_wp2
      go_loopw [6, 7] (fun s6 s7 wr => ∃ (k : Nat) (acc : ByteArray), s6 = .string acc ∧ s7 = .int .i64 (k : Int) ∧ k ≤ s.size ∧ acc.data.toList = 47 :: escA hexL (s.data.toList.take k) ∧ Below w.heap.size w wr) (fun s6 s7 wr => s.size - (RowKit.intOf s7).toNat)
      case atStart => exact ⟨0, _, rfl, rfl, Nat.zero_le _, rfl, hb1'.out⟩
      case round =>
        obtain ⟨k, acc, rfl, rfl, hk, hacc, hB⟩ := hrel
        have hal : acc.size ≤ 3 * k + 1 := by
          have h1 := escA_len hexL (s.data.toList.take k)
          rw [Lib.size_eq, hacc, List.length_cons, h1, List.length_take]
          omega
        have hB' := Lib.hid hB
        clear hB
        by_cases hlt : k < s.size
        · obtain ⟨A, hA⟩ : ∃ A, k + 1 = A := ⟨_, rfl⟩
          have hst := escA_take hexL s k hlt
          rw [hA] at hst
          obtain ⟨c, hc⟩ : ∃ c, s[k]'hlt = c := ⟨_, rfl⟩
          rw [hc] at hst
          have hAI : (k : Int) + 1 = (A : Int) := by omega
          have j6 : A ≤ s.size := by omega
          have j7 : k < A := by omega
          obtain ⟨v, hv⟩ : ∃ v, c.toNat = v := ⟨_, rfl⟩
          have hv256 : v < 256 := by rw [← hv]; exact c.toNat_lt
          obtain ⟨q, hq⟩ : ∃ q, v / 16 = q := ⟨_, rfl⟩
          obtain ⟨r, hr⟩ : ∃ r, v % 16 = r := ⟨_, rfl⟩
          have hq16 : q < 16 := by omega
          have hr16 : r < 16 := by omega
          have d1 : (v : Int) / 16 = (q : Int) := by omega
          have d2 : (v : Int) % 16 = (r : Int) := by omega
          obtain ⟨Q, hQ⟩ : ∃ Q, q + 1 = Q := ⟨_, rfl⟩
          obtain ⟨R, hR⟩ : ∃ R, r + 1 = R := ⟨_, rfl⟩
          have d3 : (q : Int) + 1 = (Q : Int) := by omega
          have d4 : (r : Int) + 1 = (R : Int) := by omega
          have e1 := hexL_cut ⟨q, hq16⟩
          have e2 := hexL_cut ⟨r, hr16⟩
          simp only at e1 e2
          rw [hQ] at e1
          rw [hR] at e2
          obtain ⟨x1, hx1⟩ : ∃ x, (⟨#[48, 49, 50, 51, 52, 53, 54, 55, 56, 57, 97, 98, 99, 100, 101, 102]⟩ : ByteArray).extract q Q = x := ⟨_, rfl⟩
          obtain ⟨x2, hx2⟩ : ∃ x, (⟨#[48, 49, 50, 51, 52, 53, 54, 55, 56, 57, 97, 98, 99, 100, 101, 102]⟩ : ByteArray).extract r R = x := ⟨_, rfl⟩
          rw [hx1] at e1
          rw [hx2] at e2
          have z1 : x1.size = 1 := by rw [Lib.size_eq, e1]; rfl
          have z2 : x2.size = 1 := by rw [Lib.size_eq, e2]; rfl
          obtain ⟨y1, hy1⟩ : ∃ y, (⟨#[37]⟩ : ByteArray) ++ x1 = y := ⟨_, rfl⟩
          have hy1d := cat_data _ _ _ hy1
          have y1s : y1.size = 2 := by rw [Lib.size_eq, hy1d, e1]; rfl
          obtain ⟨y2, hy2⟩ : ∃ y, y1 ++ x2 = y := ⟨_, rfl⟩
          have hy2d := cat_data _ _ _ hy2
          have y2s : y2.size = 3 := by rw [Lib.size_eq, hy2d, hy1d, e1, e2]; rfl
          obtain ⟨y3, hy3⟩ : ∃ y, acc ++ y2 = y := ⟨_, rfl⟩
          have hn := Lib.hid (show y3.data.toList = 47 :: escA hexL (s.data.toList.take A) by
            rw [hst, cat_data _ _ _ hy3, hy2d, hy1d, e1, e2, hacc]
            unfold escH
            rw [hv, hq, hr]; rfl)
          have n1 : ¬ 9223372036854775807 < (⟨#[37]⟩ : ByteArray).size + x1.size := by rw [z1]; decide
          have n2 : ¬ 9223372036854775807 < y1.size + x2.size := by omega
          have n3 : ¬ 9223372036854775807 < acc.size + y2.size := by omega
          have k1 : (0 : Int) ≤ (q : Int) := by omega
          have k2 : (0 : Int) ≤ (r : Int) := by omega
          have k3 : ¬ (Q : Int) < (q : Int) := by omega
          have k4 : ¬ (R : Int) < (r : Int) := by omega
          have k5 : (q : Int) ≤ (Q : Int) := by omega
          have k6 : (r : Int) ≤ (R : Int) := by omega
          have k7 : (Q : Int) ≤ 16 := by omega
          have k8 : (R : Int) ≤ 16 := by omega
          clear hst hacc hA e1 e2 z1 z2 hy1d y1s hy2d y2s hq hr hQ hR hP
          subst hv
          go_wp2_with fail
          go_quiet (fail)
          go_wp2
          go_roundw
          case rel => exact ⟨A, y3, rfl, rfl, j6, hn.out, below_drewN _ hB'.out⟩
          case measure => simp [RowKit.intOf]; omega
        · have hfull : acc.data.toList = 47 :: escA hexL s.data.toList := by rw [hacc, List.take_of_length_le (by rw [← Lib.size_eq]; omega)]
          obtain ⟨p1, hp1⟩ : ∃ y, acc ++ (⟨#[47]⟩ : ByteArray) = y := ⟨_, rfl⟩
          obtain ⟨p2, hp2⟩ : ∃ y, acc ++ acc = y := ⟨_, rfl⟩
          have p1d := cat_data _ _ _ hp1
          have p2d := cat_data _ _ _ hp2
          have p1s := cat_size _ _ _ hp1
          have p2s := cat_size _ _ _ hp2
          rw [show (⟨#[47]⟩ : ByteArray).size = 1 from rfl] at p1s
          have m1 : ¬ 9223372036854775807 < acc.size + 1 := by omega
          have m2 : ¬ 9223372036854775807 < acc.size + acc.size := by omega
          have q1 := hP.out.1
          have q2 := hP.out.2
          rw [show 47 :: (escA hexL s.data.toList ++ [47]) = p1.data.toList by rw [p1d, hfull]; rfl] at q1
          rw [show 47 :: (escA hexL s.data.toList ++ 47 :: escA hexL s.data.toList) = p2.data.toList by rw [p2d, hfull]; rfl] at q2
          have q1' := Lib.hid q1
          have q2' := Lib.hid q2
          have d6 := c6'.out p1 wr (by omega) hB'.out
          have p2b : p2.size ≤ 1000 := by omega
          clear hfull hacc p1d p2d p1s p2s q1 q2 hP
          go_wp2_with fail
          go_at_call 13
          with_reducible refine d6.mono ?_
          rintro e w6 ⟨ht, hb6⟩
          have hb6' := below_then hB'.out hb6
          have d7 := c6'.out p2 w6 p2b hb6'
          have hb6'' := Lib.hid hb6'
          clear hb6 d6 hb6'
          rcases ht with ⟨hno, rfl⟩ | ⟨a, b, hv, rfl⟩
          · rw [q1'.out] at hno; cases hno
          · rw [q1'.out] at hv
            have h3 := Option.some.inj hv
            injection h3 with h3 h4
            obtain rfl := data_is h3
            obtain rfl : b = ⟨#[]⟩ := data_is h4.symm
            clear h3 h4 hv
            go_wp2_with fail
            go_at_call 13
            with_reducible refine d7.mono ?_
            rintro e w7 ⟨ht, hb7⟩
            have hb7' := Lib.hid (below_then hb6''.out hb7)
            clear hb7 d7
            rcases ht with ⟨hno, rfl⟩ | ⟨a, b, hv, rfl⟩
            · rw [q2'.out] at hno; cases hno
            · rw [q2'.out] at hv
              have h3 := Option.some.inj hv
              injection h3 with h3 h4
              obtain rfl := data_is h3
              obtain rfl := data_is h4
              clear h3 h4 hv
              go_wp2
              go_ret
              exact ⟨rfl, hb7'.out⟩
  · have hff : fits s.data.toList = false := by simpa using hf
    rw [hff] at c3
    clear hf hff c6'
    go_enter Tryd.func6, Tryd.ntmps6
    go_wp2_with fail
    go_at_call 7
    with_reducible refine cF.mono ?_
    rintro e w1 ⟨rfl, hb1⟩
    have hb1' := Lib.hid hb1
    clear cF hb1
    go_wp2_with fail
    go_at_call 9
    with_reducible refine (c3 _).mono ?_
    rintro e w2 ⟨rfl, rfl⟩
    go_wp2
    go_ret
    exact ⟨rfl, hb1'.out⟩
end Go.Proofs.YtolnlhpaaomplaaDoor.Pa
