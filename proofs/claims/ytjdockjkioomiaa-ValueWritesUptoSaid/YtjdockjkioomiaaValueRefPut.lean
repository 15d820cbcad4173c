/-
  WALKS OF THE REFERENCE's Put AND PutList.
-/
import Derived.Test.YtjdockjkioomiaaValueFirst
import Derived.Test.YtjdockjkioomiaaValueSigns
set_option linter.unusedVariables false
namespace Go.Proofs.Ytjdockjkioomiaa.Va
open Go.Lib Go.RowKit Bu

theorem one_data (s : ByteArray) (k : Nat) (h : k < s.size) : (s.extract k (k + 1)).data.toList = [s[k]'h] := by
  rw [Lib.extract_data, show k + 1 - k = 1 by omega, drop_head s k h]; rfl

set_option maxHeartbeats 4000000 in
set_option maxRecDepth 100000 in
theorem refPut_any (s : ByteArray) (w : World) (hs : s.size ≤ 1099511627776) :
    Calls Try.prog 20 #[.string s] w fun e w' => (∃ x : ByteArray, x.data.toList = put s.data.toList ∧ e = .returned (.string x)) ∧ w = w' := by
  go_enter Try.func20, Try.ntmps20
  go_wp2
  go_loop [3, 4] (fun s3 s4 => ∃ (k : Nat) (acc : ByteArray), s3 = .string acc ∧ s4 = .int .i64 (k : Int) ∧ k ≤ s.size ∧ acc.data.toList = put (s.data.toList.take k)) (fun s3 s4 => s.size - (RowKit.intOf s4).toNat)
  case atStart => exact ⟨0, _, rfl, rfl, Nat.zero_le _, rfl⟩
  case round =>
    obtain ⟨k, acc, rfl, rfl, hk, hacc⟩ := hrel
    have hal : acc.size ≤ 2 * k := by
      have h1 := put_len (s.data.toList.take k)
      rw [← hacc, ← Lib.size_eq, List.length_take] at h1
      omega
    by_cases hlt : k < s.size
    · obtain ⟨A, hA⟩ : ∃ A, k + 1 = A := ⟨_, rfl⟩
      have hod := one_data s k hlt
      have hpt := put_take s k hlt
      rw [hA] at hod hpt
      obtain ⟨b1, hb1⟩ : ∃ b1, s.extract k A = b1 := ⟨_, rfl⟩
      rw [hb1] at hod
      have hb1s : b1.size = 1 := by rw [Lib.size_eq, hod]; rfl
      obtain ⟨q1, hq1⟩ : ∃ q, acc ++ (⟨#[92, 92]⟩ : ByteArray) = q := ⟨_, rfl⟩
      obtain ⟨q2, hq2⟩ : ∃ q, acc ++ (⟨#[92, 44]⟩ : ByteArray) = q := ⟨_, rfl⟩
      obtain ⟨q3, hq3⟩ : ∃ q, acc ++ (⟨#[92, 59]⟩ : ByteArray) = q := ⟨_, rfl⟩
      obtain ⟨q4, hq4⟩ : ∃ q, acc ++ (⟨#[92, 110]⟩ : ByteArray) = q := ⟨_, rfl⟩
      obtain ⟨q5, hq5⟩ : ∃ q, acc ++ b1 = q := ⟨_, rfl⟩
      have m1 : ¬ 9223372036854775807 < acc.size + 2 := by omega
      have m4 : ¬ 9223372036854775807 < acc.size + b1.size := by omega
      have hAI : (k : Int) + 1 = (A : Int) := by omega
      have j1 : (k : Int) ≤ (A : Int) := by omega
      have j2 : (A : Int) ≤ (s.size : Int) := by omega
      have j3 : (0 : Int) ≤ (k : Int) := by omega
      have j4 : ¬ (A : Int) < (k : Int) := by omega
      have j5 : ¬ (s.size : Int) < (A : Int) := by omega
      have j6 : A ≤ s.size := by omega
      have j7 : k < A := by omega
      have hnext : ∀ (q : ByteArray) (x : Row), put1 (s[k]'hlt) = x → q.data.toList = acc.data.toList ++ x → q.data.toList = put (s.data.toList.take A) := fun q x h1 h2 => by rw [hpt, h1, h2, hacc]
      have hnext' := Lib.hid hnext
      have hod' := Lib.hid hod
      have hA' := Lib.hid hA
      clear hA hod hpt hnext hacc hb1s
      by_cases c1 : s[k]'hlt = 92
      · have f1 : ((((s[k]'hlt).toNat : Nat) : Int) == 92) = true := ty (m := 92) rfl c1
        have hn := Lib.hid (hnext'.out q1 [92, 92] (by rw [c1]; rfl) (cat_data _ _ _ hq1))
        clear c1
        go_wp2
        go_round
        case rel => exact ⟨A, q1, rfl, rfl, j6, hn.out⟩
        case measure => simp [RowKit.intOf]; omega
      · have f1 : ((((s[k]'hlt).toNat : Nat) : Int) == 92) = false := tn (m := 92) rfl c1
        by_cases c2 : s[k]'hlt = 44
        · have f2 : ((((s[k]'hlt).toNat : Nat) : Int) == 44) = true := ty (m := 44) rfl c2
          have hn := Lib.hid (hnext'.out q2 [92, 44] (by rw [c2]; rfl) (cat_data _ _ _ hq2))
          clear c1 c2
          go_wp2
          go_round
          case rel => exact ⟨A, q2, rfl, rfl, j6, hn.out⟩
          case measure => simp [RowKit.intOf]; omega
        · have f2 : ((((s[k]'hlt).toNat : Nat) : Int) == 44) = false := tn (m := 44) rfl c2
          by_cases c3 : s[k]'hlt = 59
          · have f3 : ((((s[k]'hlt).toNat : Nat) : Int) == 59) = true := ty (m := 59) rfl c3
            have hn := Lib.hid (hnext'.out q3 [92, 59] (by rw [c3]; rfl) (cat_data _ _ _ hq3))
            clear c1 c2 c3
            go_wp2
            go_round
            case rel => exact ⟨A, q3, rfl, rfl, j6, hn.out⟩
            case measure => simp [RowKit.intOf]; omega
          · have f3 : ((((s[k]'hlt).toNat : Nat) : Int) == 59) = false := tn (m := 59) rfl c3
            by_cases c4 : s[k]'hlt = 10
            · have f4 : ((((s[k]'hlt).toNat : Nat) : Int) == 10) = true := ty (m := 10) rfl c4
              have hn := Lib.hid (hnext'.out q4 [92, 110] (by rw [c4]; rfl) (cat_data _ _ _ hq4))
              clear c1 c2 c3 c4
              go_wp2
              go_round
              case rel => exact ⟨A, q4, rfl, rfl, j6, hn.out⟩
              case measure => simp [RowKit.intOf]; omega
            · have f4 : ((((s[k]'hlt).toNat : Nat) : Int) == 10) = false := tn (m := 10) rfl c4
              have hp1 : put1 (s[k]'hlt) = [s[k]'hlt] := by
                unfold put1
                rw [if_neg (fun h => by rcases h with e | e | e; exact c1 e; exact c2 e; exact c3 e), if_neg c4]
              have hn := Lib.hid (hnext'.out q5 _ hp1 (by rw [cat_data _ _ _ hq5, hod'.out]))
              clear c1 c2 c3 c4 hp1
              go_wp2
              go_round
              case rel => exact ⟨A, q5, rfl, rfl, j6, hn.out⟩
              case measure => simp [RowKit.intOf]; omega
    · have hf : acc.data.toList = put s.data.toList := by rw [hacc, List.take_of_length_le (by rw [← Lib.size_eq]; omega)]
      clear hacc
      go_wp2
      go_ret
      exact ⟨⟨acc, hf, rfl⟩, rfl⟩

set_option maxHeartbeats 4000000 in
set_option maxRecDepth 100000 in
theorem refPutList_any (ls : List Row) (v : Value) (w : World) (h : StrsAt w v ls) (hlen : (putL ls).length ≤ 1099511627776) :
    Calls Try.prog 17 #[v] w fun e w' => (∃ x : ByteArray, x.data.toList = putL ls ∧ e = .returned (.string x)) ∧ w = w' := by
  obtain ⟨A, b, off, c, rfl, h1, h2, h3, h4⟩ := h
  obtain ⟨n, hn⟩ : ∃ n, ls.length = n := ⟨_, rfl⟩
  have hput : ∀ (k : Nat) (l : Row), ls[k]? = some l → (put l).length ≤ 1099511627776 := fun k l hl => Nat.le_trans (jn_mem_le 44 put ls k l hl) hlen
  have hnext : ∀ (k : Nat) (l : Row), ls[k]? = some l → (if k = 0 then [] else jn 44 ((ls.take k).map put) ++ [44]) ++ put l = jn 44 ((ls.take (k + 1)).map put) := fun k l hl => (jn_take 44 put ls k l hl).symm
  have hle : ∀ k, (jn 44 ((ls.take k).map put)).length ≤ 1099511627776 := fun k => Nat.le_trans (jn_take_le 44 put ls k) hlen
  have hall : jn 44 ((ls.take n).map put) = putL ls := by rw [List.take_of_length_le (by omega)]; rfl
  rw [hn] at h1 h3 ⊢
  unfold maxLen at h2
  have hn' := Lib.hid hn
  have h3' := Lib.hid h3
  have h4' := Lib.hid h4
  have hput' := Lib.hid hput
  have hnext' := Lib.hid hnext
  have hall' := Lib.hid hall
  have hle' := Lib.hid hle
  clear hn h3 h4 hput hnext hall hlen hle
  go_enter Try.func17, Try.ntmps17
  go_wp2
  go_loopw [3, 8] (fun s3 s8 wr => ∃ (k : Nat) (acc : ByteArray), s3 = .string acc ∧ s8 = .int .i64 (k : Int) ∧ k ≤ n ∧ acc.data.toList = jn 44 ((ls.take k).map put) ∧ w = wr) (fun s3 s8 wr => n - (RowKit.intOf s8).toNat)
  case atStart => exact ⟨0, _, rfl, rfl, Nat.zero_le _, rfl, rfl⟩
  case round =>
    obtain ⟨k, acc, rfl, rfl, hk, hacc, rfl⟩ := hrel
    have hal : acc.size ≤ 1099511627776 := by rw [Lib.size_eq, hacc]; exact hle'.out k
    by_cases hlt : k < n
    · have hl : ls[k]? = some (ls[k]'(by have := hn'.out; omega)) := List.getElem?_eq_getElem _
      obtain ⟨l, hle⟩ : ∃ l, ls[k]'(by have := hn'.out; omega) = l := ⟨_, rfl⟩
      rw [hle] at hl
      obtain ⟨rfl, hg⟩ := h3'.out (by omega)
      obtain ⟨u, hu, rfl⟩ := h4'.out k l hl
      obtain ⟨x, ex, hx⟩ := sv_some l
      rw [ex] at hu
      have e1 := hnext'.out k l hl
      have hpl := hput'.out k l hl
      have hxs : x.size ≤ 1099511627776 := by have := put_ge l; rw [Lib.size_eq, hx]; omega
      have cP := refPut_any x w hxs
      rw [hx] at cP
      have hyl : ∀ y : ByteArray, y.data.toList = put l → y.size ≤ 1099511627776 := fun y hy => by rw [Lib.size_eq, hy]; exact hpl
      have hyl' := Lib.hid hyl
      clear hle hl ex hpl hxs hx hyl
      by_cases hk0 : k = 0
      · rw [if_pos hk0] at e1
        have ha0 : acc.data.toList = [] := by rw [hacc, hk0]; rfl
        have hk1 : k ≤ 0 := by omega
        have e1' := Lib.hid e1
        have ha0' := Lib.hid ha0
        clear e1 hk0 ha0 hacc
        go_wp2_with fail
        go_at_call 20
        refine cP.mono ?_
        rintro e w2 ⟨⟨y, hy, rfl⟩, rfl⟩
        obtain ⟨q, hq⟩ : ∃ q, acc ++ y = q := ⟨_, rfl⟩
        have hys := hyl'.out y hy
        have m1 : ¬ 9223372036854775807 < acc.size + y.size := by omega
        have hqd : q.data.toList = jn 44 ((ls.take (k + 1)).map put) := by rw [cat_data _ _ _ hq, ha0'.out, hy, e1'.out]
        have hqd' := Lib.hid hqd
        clear hy hqd cP
        go_wp2
        go_roundw
        case rel => exact ⟨k + 1, q, rfl, by go_num, by omega, hqd'.out, by trivial⟩
        case measure => simp [RowKit.intOf]; omega
      · rw [if_neg hk0] at e1
        have hk1 : 0 < k := by omega
        obtain ⟨r, hr⟩ : ∃ q, acc ++ (⟨#[44]⟩ : ByteArray) = q := ⟨_, rfl⟩
        have hrs := cat_size _ _ _ hr
        rw [show (⟨#[44]⟩ : ByteArray).size = 1 from rfl] at hrs
        have hrl : r.size ≤ 1099511627777 := by omega
        have m0 : ¬ 9223372036854775807 < acc.size + 1 := by omega
        have hrd : r.data.toList = jn 44 ((ls.take k).map put) ++ [44] := by rw [cat_data _ _ _ hr, hacc]
        have hrd' := Lib.hid hrd
        have e1' := Lib.hid e1
        clear e1 hk0 hacc hrd hrs
        go_wp2_with fail
        go_at_call 20
        refine cP.mono ?_
        rintro e w2 ⟨⟨y, hy, rfl⟩, rfl⟩
        obtain ⟨q, hq⟩ : ∃ q, r ++ y = q := ⟨_, rfl⟩
        have hys := hyl'.out y hy
        have m1 : ¬ 9223372036854775807 < r.size + y.size := by omega
        have hqd : q.data.toList = jn 44 ((ls.take (k + 1)).map put) := by rw [cat_data _ _ _ hq, hrd'.out, hy, e1'.out]
        have hqd' := Lib.hid hqd
        clear hy hqd cP
        go_wp2
        go_roundw
        case rel => exact ⟨k + 1, q, rfl, by go_num, by omega, hqd'.out, by trivial⟩
        case measure => simp [RowKit.intOf]; omega
    · obtain rfl : k = n := by omega
      rw [hall'.out] at hacc
      go_wp2
      go_ret
      exact ⟨⟨acc, hacc, rfl⟩, rfl⟩
end Go.Proofs.Ytjdockjkioomiaa.Va
