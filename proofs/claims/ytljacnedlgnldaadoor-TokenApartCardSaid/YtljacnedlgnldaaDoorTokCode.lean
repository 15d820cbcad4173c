/-
  WALKS OF token.Print, token.Parse, token.Check. (Fitted to the program's own text.)
-/
import Derived.Test.YtljacnedlgnldaaDoorTokRefParse
import Derived.Test.YtljacnedlgnldaaDoorStrCut
set_option linter.unusedVariables false
namespace Go.Proofs.YtljacnedlgnldaaDoor.To
open Go.Lib Go.RowKit

set_option maxHeartbeats 2000000 in
set_option maxRecDepth 100000 in
theorem right_any (b a : Int) (w : World) : Calls Tryd.prog 13 #[tokV b a] w fun e w' => e = .returned (.bool (rightI b a)) ∧ Below w.heap.size w w' := by
  have hB : Below w.heap.size w (w.alloc (.cells #[.int .i64 b, .int .i64 a] 23)) := (Below.refl _ _).alloc (Nat.le_refl _) _
  unfold rightI
  rw [show decide (0 < b) = decide (1 ≤ b) from decide_eq_decide.2 (by omega)]
  by_cases h1 : 1 ≤ b
  · by_cases h2 : b ≤ a
    · by_cases h3 : a ≤ 4611686018427387904
      · rw [decide_eq_true h1, decide_eq_true h2, decide_eq_true h3]
        go_enter Tryd.func13, Tryd.ntmps13
        go_wp2
        go_ret
        exact ⟨rfl, hB⟩
      · rw [decide_eq_true h1, decide_eq_true h2, decide_eq_false h3]
        go_enter Tryd.func13, Tryd.ntmps13
        go_wp2
        go_ret
        exact ⟨rfl, hB⟩
    · rw [decide_eq_true h1, decide_eq_false h2]
      go_enter Tryd.func13, Tryd.ntmps13
      go_wp2
      go_ret
      exact ⟨rfl, hB⟩
  · rw [decide_eq_false h1]
    go_enter Tryd.func13, Tryd.ntmps13
    go_wp2
    go_ret
    exact ⟨rfl, hB⟩

set_option maxHeartbeats 8000000 in
set_option maxRecDepth 100000 in
theorem print_any : PrintC := by
  intro b a w hb64 ha64 hP
  have cR := right_any b a
  by_cases hr : 1 ≤ b ∧ b ≤ a ∧ a ≤ (most : Int)
  rotate_left
  · have e1 : prT b a = [] := by unfold prT; rw [if_neg hr]
    have e2 : rightI b a = false := by rw [rightI_is, decide_eq_false hr]
    rw [e1]
    rw [e2] at cR
    clear hr e1 e2 hP
    go_enter Tryd.func8, Tryd.ntmps8
    go_wp2_with fail
    go_at_call 13
    refine (cR _).mono ?_
    rintro e w1 ⟨rfl, hb⟩
    go_wp2
    go_ret
    exact ⟨rfl, below_box hb⟩
  have e1 : prT b a = txtT b.toNat a.toNat := by unfold prT; rw [if_pos hr]
  have e2 : rightI b a = true := by rw [rightI_is, decide_eq_true hr]
  rw [e1]
  rw [e2] at cR
  obtain ⟨n, rfl⟩ : ∃ n : Nat, b = (n : Int) := ⟨b.toNat, by omega⟩
  obtain ⟨m, rfl⟩ : ∃ m : Nat, a = (m : Int) := ⟨a.toNat, by omega⟩
  rw [Int.toNat_natCast, Int.toNat_natCast]
  unfold most at hr
  have cA := Lib.hid (fun W hW => Ch.decimal_any n (by omega) W hW)
  have cB := Lib.hid (fun W hW => Ch.decimal_any m (by omega) W hW)
  have l1 := dec_len (n := n) (by unfold most; omega)
  have l2 := dec_len (n := m) (by unfold most; omega)
  have hj := Lib.hid (join_txt n m)
  have w1 : IntKind.u64.wrap (n : Int) = (n : Int) := IntWalk.u64_in _ (by omega)
  have w2 : IntKind.u64.wrap (m : Int) = (m : Int) := IntWalk.u64_in _ (by omega)
  have s1 : (⟨(decDigits n).toArray⟩ : ByteArray).size ≤ 20 := by rw [Lib.size_eq]; simpa using l1
  have s2 : (⟨(decDigits m).toArray⟩ : ByteArray).size ≤ 20 := by rw [Lib.size_eq]; simpa using l2
  generalize (⟨(decDigits n).toArray⟩ : ByteArray) = x at cA hj s1
  generalize (⟨(decDigits m).toArray⟩ : ByteArray) = y at cB hj s2
  have z1 : (⟨#[117, 114, 110, 58, 99, 97, 108, 101, 112, 105, 110, 58]⟩ : ByteArray).size = 12 := rfl
  have z2 : (⟨#[46]⟩ : ByteArray).size = 1 := rfl
  obtain ⟨p1, hp1⟩ : ∃ p, (⟨#[117, 114, 110, 58, 99, 97, 108, 101, 112, 105, 110, 58]⟩ : ByteArray) ++ x = p := ⟨_, rfl⟩
  obtain ⟨p2, hp2⟩ : ∃ p, p1 ++ (⟨#[46]⟩ : ByteArray) = p := ⟨_, rfl⟩
  obtain ⟨p3, hp3⟩ : ∃ p, p2 ++ y = p := ⟨_, rfl⟩
  have q1 : p1.size = 12 + x.size := by rw [← hp1, ByteArray.size_append]; omega
  have q2 : p2.size = p1.size + 1 := by rw [← hp2, ByteArray.size_append]; omega
  have f1 : ¬ 9223372036854775807 < (⟨#[117, 114, 110, 58, 99, 97, 108, 101, 112, 105, 110, 58]⟩ : ByteArray).size + x.size := by omega
  have f1' : ¬ 9223372036854775807 < 12 + x.size := by omega
  have f2 : ¬ 9223372036854775807 < p1.size + (⟨#[46]⟩ : ByteArray).size := by omega
  have f2' : ¬ 9223372036854775807 < p1.size + 1 := by omega
  have f3 : ¬ 9223372036854775807 < p2.size + y.size := by omega
  rw [hp1, hp2, hp3] at hj
  have hP' := Lib.hid hP
  clear hr e1 e2 l1 l2 s1 s2 z1 z2 q1 q2 hP hb64 ha64
  go_enter Tryd.func8, Tryd.ntmps8
  go_wp2_with fail
  go_at_call 13
  refine (cR _).mono ?_
  rintro e wb ⟨rfl, hb⟩
  have hB := Lib.hid (below_box hb)
  obtain ⟨x0, x1⟩ := box_two hb
  have hlt : w.heap.size < wb.heap.size := World.block_lt_of_cell? _ _ x0
  have hpow := Lib.hid (fun (W : World) (h : Below wb.heap.size wb W) => Ch.pow_below hP'.out (below_then hB.out h))
  have hSS := Lib.hid (fun (W : World) (h : Below wb.heap.size wb W) => (⟨h, (h.cell (p := ⟨w.heap.size, 0, none⟩) hlt).trans x0, (h.cell (p := ⟨w.heap.size, 1, none⟩) hlt).trans x1⟩ : Below wb.heap.size wb W ∧ W.cell? ⟨w.heap.size, 0, none⟩ = some (.int .i64 (n : Int)) ∧ W.cell? ⟨w.heap.size, 1, none⟩ = some (.int .i64 (m : Int))))
  clear hb cR hlt
  go_wp2_with fail
  go_region_held3 (fun W => Below wb.heap.size wb W ∧ W.cell? ⟨w.heap.size, 0, none⟩ = some (.int .i64 (n : Int)) ∧ W.cell? ⟨w.heap.size, 1, none⟩ = some (.int .i64 (m : Int)))
    (refine hSS.out _ ?_ <;> first | exact Below.drew (Below.refl _ _) | exact below_then (And.left (by assumption)) (by assumption) | exact below_then (Below.drew (Below.refl _ _)) (by assumption) | assumption)
    (first | (go_at_call 14; (first | ((with_reducible refine (cA.out _ (hpow.out _ (And.left (by assumption)))).mono ?_); rintro e wx ⟨rfl, hbx⟩) | ((with_reducible refine (cB.out _ (hpow.out _ (And.left (by assumption)))).mono ?_); rintro e wy ⟨rfl, hby⟩))))
  all_goals
    go_wp2
    go_ret
    exact ⟨by rw [hj.out]; rfl, below_then hB.out (by first | exact And.left (by assumption) | exact below_then (And.left (by assumption)) (by assumption) | assumption)⟩

set_option maxHeartbeats 4000000 in
set_option maxRecDepth 100000 in
theorem check_any : CheckC := by
  intro b a book lo hi w
  have hB : Below w.heap.size w (w.alloc (.cells #[.int .i64 b, .int .i64 a] 23)) := (Below.refl _ _).alloc (Nat.le_refl _) _
  unfold fitsT
  by_cases h1 : b = book
  · have e1 : (b == book) = true := by simp [h1]
    have e1' : (b != book) = false := by simp [h1]
    rw [decide_eq_true h1]
    clear h1
    by_cases h2 : lo ≤ a
    · by_cases h3 : a ≤ hi
      · rw [decide_eq_true h2, decide_eq_true h3, if_pos (by decide)]
        go_enter Tryd.func12, Tryd.ntmps12
        go_wp2
        go_ret
        exact ⟨rfl, hB⟩
      · rw [decide_eq_true h2, decide_eq_false h3, if_neg (by decide)]
        go_enter Tryd.func12, Tryd.ntmps12
        go_wp2
        go_ret
        exact ⟨rfl, hB⟩
    · rw [decide_eq_false h2, if_neg (by simp)]
      go_enter Tryd.func12, Tryd.ntmps12
      go_wp2
      go_ret
      exact ⟨rfl, hB⟩
  · have e1 : (b == book) = false := by simp [h1]
    have e1' : (b != book) = true := by simp [h1]
    rw [decide_eq_false h1, if_neg (by simp)]
    clear h1
    go_enter Tryd.func12, Tryd.ntmps12
    go_wp2
    go_ret
    exact ⟨rfl, hB⟩

/-! ### Parse -/
def preB : ByteArray := ⟨#[117, 114, 110, 58, 99, 97, 108, 101, 112, 105, 110, 58]⟩
theorem preB_row : preB.data.toList = pre := rfl
def PreP (s t : ByteArray) (b : Bool) : Prop := (b = true ∧ s.data.toList = pre ++ t.data.toList) ∨ (b = false ∧ t = s ∧ s.data.toList.take 12 ≠ pre)
set_option maxHeartbeats 4000000 in
set_option maxRecDepth 100000 in
theorem preLite_any (s : ByteArray) (w : World) (hs : s.size ≤ 9223372036854775807) :
    Calls Tryd.prog 22 #[.string s, .string ⟨#[117, 114, 110, 58, 99, 97, 108, 101, 112, 105, 110, 58]⟩] w fun e w' => (∃ (t : ByteArray) (b : Bool), PreP s t b ∧ t.size ≤ s.size ∧ e = .returned (.tuple #[.string t, .bool b])) ∧ w' = w := by
  have cH := Tryd.stringslite_HasPrefix s ⟨#[117, 114, 110, 58, 99, 97, 108, 101, 112, 105, 110, 58]⟩ w
  rw [show (⟨#[117, 114, 110, 58, 99, 97, 108, 101, 112, 105, 110, 58]⟩ : ByteArray).data.toList = pre from rfl] at cH
  by_cases hp : Lib.hasPrefix s.data.toList pre = true
  · rw [hp] at cH
    obtain ⟨q, hq⟩ := List.isPrefixOf_iff_prefix.1 (show pre.isPrefixOf s.data.toList = true from hp)
    have h1 : 12 ≤ s.size := by rw [Lib.size_eq, ← hq, List.length_append]; have : pre.length = 12 := rfl; omega
    have h1z : (12 : Int) ≤ (s.size : Int) := by omega
    have hfin : PreP s (s.extract 12 s.size) true := by
      left
      refine ⟨rfl, ?_⟩
      rw [Lib.extract_to_end, ← hq, drop_pre]
    have hsz : (s.extract 12 s.size).size ≤ s.size := by simp
    have hfin' := Lib.hid hfin
    have hsz' := Lib.hid hsz
    clear hfin hp hq hsz
    go_enter Tryd.func22, Tryd.ntmps22
    go_wp2_with (go_at_call 25; refine cH.mono ?_; rintro e w ⟨rfl, rfl⟩)
    go_ret2
    exact ⟨⟨_, _, hfin'.out, hsz'.out, rfl⟩, rfl⟩
  · rw [Bool.eq_false_iff.2 hp] at cH
    have hfin : PreP s s false := by
      right
      refine ⟨rfl, rfl, fun hr => hp ?_⟩
      show pre.isPrefixOf s.data.toList = true
      rw [List.isPrefixOf_iff_prefix]
      exact ⟨s.data.toList.drop 12, by conv => rhs; rw [← List.take_append_drop 12 s.data.toList, hr]⟩
    have hfin' := Lib.hid hfin
    clear hfin hp
    go_enter Tryd.func22, Tryd.ntmps22
    go_wp2_with (go_at_call 25; refine cH.mono ?_; rintro e w ⟨rfl, rfl⟩)
    go_ret2
    exact ⟨⟨_, _, hfin'.out, Nat.le_refl _, rfl⟩, rfl⟩
set_option maxHeartbeats 2000000 in
set_option maxRecDepth 100000 in
theorem pre_any (s : ByteArray) (w : World) (hs : s.size ≤ 9223372036854775807) :
    Calls Tryd.prog 17 #[.string s, .string ⟨#[117, 114, 110, 58, 99, 97, 108, 101, 112, 105, 110, 58]⟩] w fun e w' => (∃ (t : ByteArray) (b : Bool), PreP s t b ∧ t.size ≤ s.size ∧ e = .returned (.tuple #[.string t, .bool b])) ∧ w' = w := by
  go_enter Tryd.func17, Tryd.ntmps17
  go_wp2_with fail
  go_at_call 22
  refine (preLite_any s w hs).mono ?_
  rintro e w1 ⟨⟨t, b, h, hz, rfl⟩, rfl⟩
  have h' := Lib.hid h
  have hz' := Lib.hid hz
  clear h hz
  go_wp2
  go_ret2
  exact ⟨⟨_, _, h'.out, hz'.out, rfl⟩, rfl⟩

theorem numE_is (x : Row) {n : Nat} {ok : Bool} (h : Ch.numS x most = (n, ok)) : Ch.numE (Ch.numS x most) = .returned (.tuple #[.int .u64 (n : Int), .bool ok]) := by rw [h]; rfl
theorem bool_way (a c d : Bool) : a = false ∨ (a = true ∧ c = false) ∨ (a = true ∧ c = true ∧ d = false) ∨ (a = true ∧ c = true ∧ d = true) := by
  cases a <;> cases c <;> cases d <;> simp
set_option maxHeartbeats 16000000 in
set_option maxRecDepth 100000 in
theorem parse_any : ParseC := by
  intro s w hs
  obtain ⟨E, hE⟩ : ∃ E, parE (paT s.data.toList) = E := ⟨_, rfl⟩
  rw [hE]
  obtain ⟨wb, hwb⟩ : ∃ wb, w.alloc (.cells #[.int .i64 0, .int .i64 0] 23) = wb := ⟨_, rfl⟩
  have hB : Below w.heap.size w wb := by rw [← hwb]; exact (Below.refl _ _).alloc (Nat.le_refl _) _
  have hk : Zb w.heap.size wb := by unfold Zb; rw [← hwb]; exact heap_alloc_new w _
  have hno' := Lib.hid (fun (h : paT s.data.toList = none) => show E = .returned (.tuple #[tokV 0 0, .int .i64 110]) by rw [← hE, h]; rfl)
  have hyes' := Lib.hid (fun (n m : Nat) (h : paT s.data.toList = some (n, m)) => show E = .returned (.tuple #[tokV (n : Int) (m : Int), .int .i64 0]) by rw [← hE, h]; rfl)
  have hB' := Lib.hid hB
  have hk' := Lib.hid hk
  clear hE hB hk
  go_enter Tryd.func10, Tryd.ntmps10
  go_wp2_with fail
  go_at_call 17
  refine (pre_any s wb (by omega)).mono ?_
  rintro e w1 ⟨⟨t, bm, hpre, hts, rfl⟩, hw⟩
  subst hw
  have hpa : (bm = true ∧ paT s.data.toList = two t.data.toList) ∨ (bm = false ∧ paT s.data.toList = none) := by
    rcases hpre with ⟨rfl, h⟩ | ⟨rfl, rfl, h⟩
    · left
      refine ⟨rfl, ?_⟩
      unfold paT
      rw [h, take_pre, if_pos rfl, drop_pre]
    · right
      refine ⟨rfl, ?_⟩
      unfold paT
      rw [if_neg h]
  clear hpre
  have hpa' := Lib.hid hpa
  clear hpa
  go_wp2_with fail
  go_at_call 18
  refine (Sc.sCut_any 46 t w1 (by omega)).mono ?_
  rintro e w2 ⟨hcut, hb2⟩
  obtain ⟨x, y, bd, rfl, hxy, hxs, hys⟩ : ∃ (x y : ByteArray) (bd : Bool), e = .returned (.tuple #[.string x, .string y, .bool bd]) ∧ ((bd = false ∧ two t.data.toList = none ∧ y.data.toList = []) ∨ (bd = true ∧ two t.data.toList = if (Ch.numS x.data.toList most).2 = true ∧ (Ch.numS y.data.toList most).2 = true ∧ right (Ch.numS x.data.toList most).1 (Ch.numS y.data.toList most).1 then some ((Ch.numS x.data.toList most).1, (Ch.numS y.data.toList most).1) else none)) ∧ x.size ≤ t.size ∧ y.size ≤ t.size := by
    rcases hcut with ⟨h, rfl⟩ | ⟨a, r, h, h2, rfl⟩
    · exact ⟨_, _, _, rfl, .inl ⟨rfl, two_none h, rfl⟩, Nat.le_refl _, Nat.zero_le _⟩
    · refine ⟨_, _, _, rfl, .inr ⟨rfl, by rw [h2]; exact two_at h⟩, ?_, ?_⟩
      · rw [Lib.size_eq, Lib.size_eq, h2]; simp
      · rw [Lib.size_eq, Lib.size_eq, h2]; simp; omega
  clear hcut
  have hxy' := Lib.hid hxy
  clear hxy
  obtain ⟨⟨n, okn⟩, hn⟩ : ∃ p, Ch.numS x.data.toList most = p := ⟨_, rfl⟩
  obtain ⟨⟨m, okm⟩, hm⟩ : ∃ p, Ch.numS y.data.toList most = p := ⟨_, rfl⟩
  have ln := num_le x.data.toList
  have lm := num_le y.data.toList
  have cN := Ch.number_any x most w2 (by omega) (by decide)
  have cM := Ch.number_any y most w2 (by omega) (by decide)
  rw [numE_is _ hn] at cN
  rw [numE_is _ hm] at cM
  rw [hn] at ln
  rw [hm] at lm
  have hall : (bm && (okn && okm)) = false → paT s.data.toList = none := fun h => by
    rcases hpa'.out with ⟨rfl, hp⟩ | ⟨rfl, hp⟩
    · rw [hp]
      rcases hxy'.out with ⟨_, h2, _⟩ | ⟨_, h2⟩
      · exact h2
      · rw [h2, hn, hm]
        simp at h
        rw [if_neg]
        rintro ⟨h3, h4, _⟩
        simp at h3 h4
        exact absurd h4 (by simpa using h h3)
    · exact hp
  have hyes : bm = true → okn = true → okm = true → paT s.data.toList = if right n m then some (n, m) else none := fun h1 h3 h4 => by
    rcases hpa'.out with ⟨_, hp⟩ | ⟨h, _⟩
    · rw [hp]
      rcases hxy'.out with ⟨_, _, h⟩ | ⟨_, h5⟩
      · rw [h] at hm
        have h6 : (Ch.numS [] most).2 = false := by decide
        rw [hm] at h6
        exact absurd (h6.symm.trans h4) (by decide)
      · rw [h5, hn, hm]
        simp [h3, h4]
    · rw [h] at h1; cases h1
  have hall' := Lib.hid hall
  have hyes2 := Lib.hid hyes
  unfold most at cN cM ln lm
  simp only at ln lm
  rw [show ((4611686018427387904 : Nat) : Int) = 4611686018427387904 from rfl] at cN cM
  have wn : IntKind.i64.wrap (n : Int) = (n : Int) := IntWalk.i64_in _ (by omega)
  have wm : IntKind.i64.wrap (m : Int) = (m : Int) := IntWalk.i64_in _ (by omega)
  have cR := right_any (n : Int) (m : Int)
  have hrI : rightI (n : Int) (m : Int) = decide (right n m) := by
    rw [rightI_is]
    exact decide_eq_decide.2 (by unfold right most; omega)
  rw [hrI] at cR
  have hk2 := hk'.out.kept hb2
  have hB2 := Lib.hid (below_then hB'.out hb2)
  have hk2' := Lib.hid hk2
  obtain ⟨x0, x1, f0, f1⟩ := zb_cells hk2
  clear hall hyes hn hm hrI hb2 hk2
  have hbA : Below w2.heap.size w2 (w2.alloc (.cells #[.int .i64 (n : Int), .int .i64 (m : Int)] 23)) := (Below.refl _ _).alloc (Nat.le_refl _) _
  have hbA' := Lib.hid hbA
  have hlb : w.heap.size < w2.heap.size := (Array.getElem?_eq_some_iff.1 hk2'.out).1
  clear hbA
  rcases bool_way bm okn okm with h | ⟨h1, h3⟩ | ⟨h1, h3, h4⟩ | ⟨h1, h3, h4⟩
  case' inl => have hf := Lib.hid (hno'.out (hall'.out (by rw [h]; rfl))); subst h
  case' inr.inl => have hf := Lib.hid (hno'.out (hall'.out (by rw [h1, h3]; rfl))); subst h1; subst h3
  case' inr.inr.inl => have hf := Lib.hid (hno'.out (hall'.out (by rw [h1, h3, h4]; rfl))); subst h1; subst h3; subst h4
  case' inr.inr.inr =>
    have hP := hyes2.out h1 h3 h4
    subst h1; subst h3; subst h4
    have hP : (decide (right n m) = true ∧ E = .returned (.tuple #[tokV (n : Int) (m : Int), .int .i64 0])) ∨ (decide (right n m) = false ∧ E = .returned (.tuple #[tokV 0 0, .int .i64 110])) := by
      by_cases hr : right n m
      · exact .inl ⟨decide_eq_true hr, hyes'.out n m (by rw [hP, if_pos hr])⟩
      · exact .inr ⟨decide_eq_false hr, hno'.out (by rw [hP, if_neg hr])⟩
    rcases hP with ⟨hr, hf⟩ | ⟨hr, hf⟩
    all_goals
      rw [hr] at cR
      have hf' := Lib.hid hf
      clear hr hf
      go_wp2_with fail
      go_at_call 19
      refine cN.mono ?_
      rintro e w3 ⟨rfl, hw3⟩
      subst hw3
      go_wp2_with fail
      go_at_call 19
      refine cM.mono ?_
      rintro e w4 ⟨rfl, hw4⟩
      subst hw4
      go_wp2_with fail
      go_at_call 13
      refine (cR _).mono ?_
      rintro e w5 ⟨rfl, hb5⟩
      obtain ⟨u0, u1⟩ := box_two hb5
      have hk3 := Lib.hid ((hk2'.out.kept hbA'.out).kept hb5)
      obtain ⟨y0, y1, g0, g1⟩ := zb_cells hk3.out
      have hB3 := Lib.hid (below_then hB2.out (below_then hbA'.out hb5))
      clear hb5
    · go_wp2
      refine bodyPost_ret (v := .tuple #[tokV (n : Int) (m : Int), .int .i64 0]) ?_ rfl ⟨hf'.out.symm, below_two hB3.out (Nat.le_refl _) _ _⟩
      rw [results_cell_tmp rfl]
      simp [asAddr, Result.andThen, load_two (stored_two hk3.out)]
    · go_wp2
      refine bodyPost_ret (v := .tuple #[tokV 0 0, .int .i64 110]) ?_ rfl ⟨hf'.out.symm, below_two hB3.out (Nat.le_refl _) _ _⟩
      rw [results_cell_tmp rfl]
      simp [asAddr, Result.andThen, load_two (stored_two hk3.out)]
  all_goals
    clear cR
    go_wp2_with fail
    go_at_call 19
    refine cN.mono ?_
    rintro e w3 ⟨rfl, hw3⟩
    subst hw3
    go_wp2_with fail
    go_at_call 19
    refine cM.mono ?_
    rintro e w4 ⟨rfl, hw4⟩
    subst hw4
    go_wp2
    refine bodyPost_ret (v := .tuple #[tokV 0 0, .int .i64 110]) ?_ rfl ⟨hf.out.symm, below_two_alloc hB2.out (Nat.le_refl _) (Nat.le_refl _) _ _ _⟩
    rw [results_cell_tmp rfl]
    simp [asAddr, Result.andThen, load_two (stored_alloc hk2'.out _)]
end Go.Proofs.YtljacnedlgnldaaDoor.To
