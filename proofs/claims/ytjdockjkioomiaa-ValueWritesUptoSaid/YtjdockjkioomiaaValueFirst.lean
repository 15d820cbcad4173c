/-
  THE WALK OF 'first' OF LAYER value; the contracts of value's calls where the answer is known.
-/
import Derived.Test.YtjdockjkioomiaaValuePieces
import Derived.Test.YtjdockjkioomiaaValuePut
set_option linter.unusedVariables false
namespace Go.Proofs.Ytjdockjkioomiaa.Va
open Go.Lib Go.RowKit Bu

theorem text_is (T x : ByteArray) (w : World) (hs : T.size ≤ 1099511627776) (h : text T.data.toList = some x.data.toList) :
    Calls Try.prog 10 #[.string T] w fun e w' => e = .returned (.tuple #[.string x, .int .i64 0]) ∧ Below w.heap.size w w' :=
  (text_any T w hs).mono fun e w' ⟨h1, h2⟩ => ⟨by
    rcases h1 with ⟨h3, _⟩ | ⟨y, h3, rfl⟩
    · rw [h] at h3; cases h3
    · rw [h] at h3; rw [data_eq (Option.some.inj h3)], h2⟩
theorem text_no (T : ByteArray) (w : World) (hs : T.size ≤ 1099511627776) (h : text T.data.toList = none) :
    Calls Try.prog 10 #[.string T] w fun e w' => e = .returned (.tuple #[.string ⟨#[]⟩, .int .i64 31]) ∧ Below w.heap.size w w' :=
  (text_any T w hs).mono fun e w' ⟨h1, h2⟩ => ⟨by
    rcases h1 with ⟨_, h3⟩ | ⟨y, h3, rfl⟩
    · exact h3
    · rw [h] at h3; exact absurd h3 (by simp), h2⟩
theorem list_is (T : ByteArray) (ls : List Row) (w : World) (hs : T.size ≤ 1099511627776) (h : list T.data.toList = some ls) :
    Calls Try.prog 11 #[.string T] w fun e w' => (∃ v, e = .returned (.tuple #[v, .int .i64 0]) ∧ Own w.heap.size v ls w') ∧ Below w.heap.size w w' :=
  (list_any T w hs).mono fun e w' ⟨h1, h2⟩ => ⟨by
    rcases h1 with ⟨h3, _⟩ | ⟨v, ms, h3, rfl, h4⟩
    · rw [h] at h3; cases h3
    · rw [h] at h3; obtain rfl := Option.some.inj h3; exact ⟨v, rfl, h4⟩, h2⟩
theorem list_no (T : ByteArray) (w : World) (hs : T.size ≤ 1099511627776) (h : list T.data.toList = none) :
    Calls Try.prog 11 #[.string T] w fun e w' => e = .returned (.tuple #[.slice none 0 0, .int .i64 31]) ∧ Below w.heap.size w w' :=
  (list_any T w hs).mono fun e w' ⟨h1, h2⟩ => ⟨by
    rcases h1 with ⟨_, h3⟩ | ⟨v, ms, h3, rfl, h4⟩
    · exact h3
    · rw [h] at h3; exact absurd h3 (by simp), h2⟩
theorem fields_is (T : ByteArray) (fs : List (List Row)) (w : World) (hs : T.size ≤ 1099511627776) (h : fields T.data.toList = some fs) :
    Calls Try.prog 12 #[.string T] w fun e w' => (∃ v, e = .returned (.tuple #[v, .int .i64 0]) ∧ LOwn w.heap.size v fs w') ∧ Below w.heap.size w w' :=
  (fields_any T w hs).mono fun e w' ⟨h1, h2⟩ => ⟨by
    rcases h1 with ⟨h3, _⟩ | ⟨v, ms, h3, rfl, h4⟩
    · rw [h] at h3; cases h3
    · rw [h] at h3; obtain rfl := Option.some.inj h3; exact ⟨v, rfl, h4⟩, h2⟩
theorem fields_no (T : ByteArray) (w : World) (hs : T.size ≤ 1099511627776) (h : fields T.data.toList = none) :
    Calls Try.prog 12 #[.string T] w fun e w' => e = .returned (.tuple #[.slice none 0 0, .int .i64 31]) ∧ Below w.heap.size w w' :=
  (fields_any T w hs).mono fun e w' ⟨h1, h2⟩ => ⟨by
    rcases h1 with ⟨_, h3⟩ | ⟨v, ms, h3, rfl, h4⟩
    · exact h3
    · rw [h] at h3; exact absurd h3 (by simp), h2⟩
theorem put_is (s x : ByteArray) (w : World) (hx : x.data.toList = put s.data.toList) (hs : x.size ≤ 140737488355328) :
    Calls Try.prog 19 #[.string s] w fun e w' => e = .returned (.string x) ∧ Below w.heap.size w w' :=
  (putText_any s w (by rw [← hx, ← Lib.size_eq]; exact hs)).mono fun e w' ⟨⟨y, h1, h2⟩, h3⟩ => ⟨by rw [h2, data_eq (h1.trans hx.symm)], h3⟩
theorem put_made (s : ByteArray) : ∃ x : ByteArray, x.data.toList = put s.data.toList := ⟨⟨(put s.data.toList).toArray⟩, by simp⟩

theorem first_t1 : text (⟨#[97, 92, 44, 98, 92, 110, 99]⟩ : ByteArray).data.toList = some (⟨#[97, 44, 98, 10, 99]⟩ : ByteArray).data.toList := by kernel_rfl
theorem first_t2 : text (⟨#[92, 120]⟩ : ByteArray).data.toList = none := by kernel_rfl
theorem first_t3 : (⟨#[97, 92, 59]⟩ : ByteArray).data.toList = put (⟨#[97, 59]⟩ : ByteArray).data.toList := by kernel_rfl

set_option maxHeartbeats 1000000 in
set_option maxRecDepth 100000 in
theorem first_any (w : World) : Calls Try.prog 8 #[] w fun e w' => e = .returned (.bool true) ∧ Below w.heap.size w w' := by
  have c1 := fun W => text_is _ _ W (by decide) first_t1
  have c2 := fun W => text_no _ W (by decide) first_t2
  have c3 := fun W => put_is _ _ W first_t3 (by decide)
  go_enter Try.func8, Try.ntmps8
  go_wp2_with fail
  go_at_call 10
  refine (c1 _).mono ?_
  rintro e w1 ⟨rfl, hb1⟩
  go_wp2_with fail
  go_at_call 10
  refine (c2 _).mono ?_
  rintro e w2 ⟨rfl, hb2⟩
  go_wp2_with fail
  go_at_call 19
  refine (c3 _).mono ?_
  rintro e w3 ⟨rfl, hb3⟩
  go_wp2
  go_ret
  exact ⟨rfl, below_then (below_then hb1 hb2) hb3⟩
end Go.Proofs.Ytjdockjkioomiaa.Va
