/-
  THE WALK OF THE STATEMENT LineQuotes.
-/
import Derived.Test.YthkcjfoihieooaaDoorLineFirst
import Derived.Test.YthkcjfoihieooaaDoorLineSame
set_option linter.unusedVariables false
namespace Go.Proofs.YthkcjfoihieooaaDoor.Li
open Go.Lib Go.RowKit Bu

/-! ### plain -/
def qR (w : Row) : Row := 59 :: 67 :: 61 :: 34 :: (w ++ [34, 58, 120])
def q1 (v w : Row) : Row := 65 :: 59 :: 66 :: 61 :: 34 :: (v ++ 34 :: qR w)
def q2 (v w : Row) : Row := 65 :: 59 :: 66 :: 61 :: (v ++ qR w)
def qL (v w : Row) : LD := ⟨[], [65], [⟨[66], [mean v]⟩, ⟨[67], [mean w]⟩], [120]⟩
theorem fin_qR (g n : Row) (acc : List PD) (w : Row) (h : 34 ∉ w) : fin g n acc (qR w) = .ok ⟨g, n, acc ++ [⟨[67], [mean w]⟩], [120]⟩ := by
  unfold qR
  rw [fin_more (m := [67]) (r := 61 :: 34 :: (w ++ [34, 58, 120])) (r2 := [58, 120]) (vs := [mean w]) rfl (nameC_front [67] _ (by decide) (fun x hx => by simp at hx; subst hx; decide)) rfl
    (vals_last (a := w) (r := [58, 120]) (rawC_quoted w [58, 120] h) (by simp)), fin_end (by simp)]
  rfl
theorem names_q (r : Row) : namesC (65 :: 59 :: r) = some ([], [65], 59 :: r) := by
  unfold namesC
  rw [show (65 : UInt8) :: 59 :: r = [65] ++ 59 :: r from rfl, nameC_front [65] _ (by decide) (fun x hx => by simp at hx; subst hx; decide)]
  dsimp only
  rw [if_neg (by simp)]
theorem fin_q1 (v w : Row) (hv : 34 ∉ v) (hw : 34 ∉ w) : fin [] [65] [] (59 :: 66 :: 61 :: 34 :: (v ++ 34 :: qR w)) = .ok (qL v w) := by
  rw [fin_more (m := [66]) (r := 61 :: 34 :: (v ++ 34 :: qR w)) (r2 := qR w) (vs := [mean v]) rfl (nameC_front [66] _ (by decide) (fun x hx => by simp at hx; subst hx; decide)) rfl
    (vals_last (a := v) (r := qR w) (rawC_quoted v (qR w) hv) (by simp [qR])), fin_qR _ _ _ w hw]
  rfl
theorem fin_q2 (v w : Row) (hv : 34 ∉ v) (hs : sgn v = false) (hw : 34 ∉ w) : fin [] [65] [] (59 :: 66 :: 61 :: (v ++ qR w)) = .ok (qL v w) := by
  have hsep : ∀ x ∈ v, sepB x = false := fun x hx => by
    unfold sgn at hs
    rw [List.any_eq_false] at hs
    have h1 := hs x hx
    unfold sgB at h1
    unfold sepB
    rw [Bool.not_eq_true] at h1
    rw [h1]
    have : x ≠ 34 := fun e => hv (by rw [← e]; exact hx)
    simpa using this
  rw [fin_more (m := [66]) (r := 61 :: (v ++ qR w)) (r2 := qR w) (vs := [mean v]) rfl (nameC_front [66] _ (by decide) (fun x hx => by simp at hx; subst hx; decide)) rfl
    (vals_last (a := v) (r := qR w) (rawC_bare v (qR w) hsep (fun x hx => by simp [qR] at hx; subst hx; decide) (by simp [qR])) (by simp [qR])), fin_qR _ _ _ w hw]
  rfl
theorem ends_qR (w : Row) (hw : ends w = false) : ends (qR w) = false := by
  rw [ends_false] at hw ⊢
  simp [qR, hw.1, hw.2]
theorem parse_q1 (v w : Row) (hv : 34 ∉ v) (hw : 34 ∉ w) (ev : ends v = false) (ew : ends w = false) : parse (q1 v w) = if Ch.valid (q1 v w) = true then .ok (qL v w) else .bad 10 := by
  have he : ends (q1 v w) = false := by
    have h1 := ends_qR w ew
    rw [ends_false] at ev h1 ⊢
    simp [q1, ev.1, ev.2, h1.1, h1.2]
  by_cases h : Ch.valid (q1 v w) = true
  · rw [if_pos h, parse_fin ⟨h, he⟩ (names_q _), fin_q1 v w hv hw]
  · rw [if_neg h, parse_text (fun h' => h h'.1)]
theorem valid_q (v w : Row) (h : Ch.valid (q1 v w) = true) : Ch.valid (q2 v w) = true := by
  have h1 := (valid_mid [65, 59, 66, 61] 34 (v ++ 34 :: qR w) h (by decide)).2
  obtain ⟨h2, h3⟩ := valid_mid v 34 (qR w) h1 (by decide)
  unfold q2
  rw [valid_cons _ _ (by decide) (by decide), valid_cons _ _ (by decide) (by decide), valid_cons _ _ (by decide) (by decide), valid_cons _ _ (by decide) (by decide), Ch.valid_join v _ h2]
  exact h3
theorem parse_q2 (v w : Row) (hv : 34 ∉ v) (hs : sgn v = false) (hw : 34 ∉ w) (ev : ends v = false) (ew : ends w = false) (h : Ch.valid (q1 v w) = true) : parse (q2 v w) = .ok (qL v w) := by
  have he : ends (q2 v w) = false := by
    have h1 := ends_qR w ew
    rw [ends_false] at ev h1 ⊢
    simp [q2, ev.1, ev.2, h1.1, h1.2]
  rw [parse_fin ⟨valid_q v w h, he⟩ (names_q _), fin_q2 v w hv hs hw]

/-! ### the walk -/
/-- no byte of the first i is 34, 10 or 13 -/
def okB (x : UInt8) : Bool := x != 34 && x != 10 && x != 13
theorem okB_all {l : Row} (h : ∀ x ∈ l, okB x = true) : 34 ∉ l ∧ ends l = false := by
  refine ⟨fun hm => ?_, ?_⟩
  · have := h _ hm; revert this; decide
  · rw [ends_false]
    refine ⟨fun hm => ?_, fun hm => ?_⟩
    · have := h _ hm; revert this; decide
    · have := h _ hm; revert this; decide
def IsQ1 (y v u : ByteArray) : Prop := y.data.toList = q1 v.data.toList u.data.toList
def IsQ2 (y v u : ByteArray) : Prop := y.data.toList = q2 v.data.toList u.data.toList
def IsOk (y : ByteArray) (L : LD) : Prop := parse y.data.toList = .ok L
def VQ (v u : ByteArray) : Prop := Ch.valid (q1 v.data.toList u.data.toList) = true
/-- what LineQuotes asks of its two texts -/
structure Quo (v u : Row) : Prop where
  v34 : 34 ∉ v
  u34 : 34 ∉ u
  vE : ends v = false
  uE : ends u = false
theorem q1_bad {y v u : ByteArray} (hQ : Quo v.data.toList u.data.toList) (hq : IsQ1 y v u) {n : Nat} (h : parse y.data.toList = .bad n) : n = 10 := by
  unfold IsQ1 at hq
  rw [hq, parse_q1 _ _ hQ.v34 hQ.u34 hQ.vE hQ.uE] at h
  by_cases hv : Ch.valid (q1 v.data.toList u.data.toList) = true
  · rw [if_pos hv] at h; cases h
  · rw [if_neg hv] at h; exact (LR.bad.inj h).symm
theorem q1_ok {y v u : ByteArray} (hQ : Quo v.data.toList u.data.toList) (hq : IsQ1 y v u) {L : LD} (h : parse y.data.toList = .ok L) : VQ v u ∧ L = qL v.data.toList u.data.toList := by
  unfold IsQ1 at hq
  rw [hq, parse_q1 _ _ hQ.v34 hQ.u34 hQ.vE hQ.uE] at h
  by_cases hv : Ch.valid (q1 v.data.toList u.data.toList) = true
  · rw [if_pos hv] at h; exact ⟨hv, (LR.ok.inj h).symm⟩
  · rw [if_neg hv] at h; cases h
theorem q2_ok {y v u : ByteArray} (hQ : Quo v.data.toList u.data.toList) (hq : IsQ2 y v u) (hV : VQ v u) (hs : sgn v.data.toList = false) : parse y.data.toList = .ok (qL v.data.toList u.data.toList) := by
  unfold IsQ2 at hq
  rw [hq, parse_q2 _ _ hQ.v34 hs hQ.u34 hQ.vE hQ.uE hV]
theorem b34 (x : UInt8) (h : x ≠ 34) : ((x.toNat : Int) == 34) = false := Ch.byte_all (P := fun x => x ≠ 34 → ((x.toNat : Int) == 34) = false) (by decide +kernel) x h
theorem b10 (x : UInt8) (h : x ≠ 10) : ((x.toNat : Int) == 10) = false := Ch.byte_all (P := fun x => x ≠ 10 → ((x.toNat : Int) == 10) = false) (by decide +kernel) x h
theorem b13 (x : UInt8) (h : x ≠ 13) : ((x.toNat : Int) == 13) = false := Ch.byte_all (P := fun x => x ≠ 13 → ((x.toNat : Int) == 13) = false) (by decide +kernel) x h
theorem c34 (x : UInt8) (h : x = 34) : ((x.toNat : Int) == 34) = true := by subst h; rfl
theorem c10 (x : UInt8) (h : x = 10) : ((x.toNat : Int) == 10) = true := by subst h; rfl
theorem c13 (x : UInt8) (h : x = 13) : ((x.toNat : Int) == 13) = true := by subst h; rfl
theorem all_step {p : UInt8 → Bool} {s : ByteArray} {i : Nat} (h : ∀ x ∈ s.data.toList.take i, p x = true) (hi : i < s.size) (hx : p (s[i]'hi) = true) : ∀ x ∈ s.data.toList.take (i + 1), p x = true := by
  have hg := Lib.data_getElem? s i hi
  obtain ⟨hl, hv⟩ := List.getElem?_eq_some_iff.1 hg
  intro x hm
  rw [List.take_succ_eq_append_getElem hl, List.mem_append, List.mem_singleton, hv] at hm
  rcases hm with hm | rfl
  · exact h x hm
  · exact hx
theorem LOwn.form {B : Nat} {v : Value} {L : LD} {w : World} (h : LOwn B v L w) : ∃ ao c, v = .agg #[sv L.group, sv L.name, .slice ao L.params.length c, sv L.value] := by
  obtain ⟨pv, h1, h2⟩ := h
  obtain ⟨ao, c, rfl⟩ := h2.form
  exact ⟨ao, c, h1⟩
theorem qBox {w1 : World} {x : Value} {v u : Row} (h : LineAt w1 x (qL v u)) : ∃ (xg xn xv : ByteArray) (b off c b2 o2 c2 : Nat), x = .agg #[.string xg, .string xn, .slice (some ⟨b, off, none⟩) 2 c, .string xv] ∧ b < w1.heap.size ∧ w1.cell? ⟨b, off + 1, none⟩ = some (.slice (some ⟨b2, o2, none⟩) 1 c2) := by
  obtain ⟨pv, h1, A, b, off, c, h2, _, _, h3, h4⟩ := h
  obtain ⟨hA, hb⟩ := h3 (by decide : 0 < 2)
  obtain ⟨_, z, hz, A2, b2, o2, c2, hz2, _, _, hA2, _⟩ := h4 0 _ rfl
  obtain ⟨hA2, _⟩ := hA2 (by decide : 0 < 1)
  rw [Nat.zero_mul, Nat.add_zero] at hz
  subst hA; subst hA2
  exact ⟨_, _, _, b, off, c, b2, o2, c2, by rw [h1, h2]; rfl, hb, by rw [hz, hz2]; rfl⟩
def NoSg (s : ByteArray) (i : Nat) : Prop := ∀ x ∈ s.data.toList.take i, sgB x = false
theorem NoSg.one {s : ByteArray} {i : Nat} (h : NoSg s i) (hi : i < s.size) (hx : sgB (s[i]'hi) = false) : NoSg s (i + 1) := fun x hx' => by
  have := all_step (p := fun x => !sgB x) (fun y hy => by rw [h y hy]; rfl) hi (by rw [hx]; rfl) x hx'
  simpa using this
theorem NoSg.sgn {s : ByteArray} {i : Nat} (h : NoSg s i) (hi : s.size ≤ i) : sgn s.data.toList = false := by
  unfold NoSg at h
  rw [List.take_of_length_le (by rw [← Lib.size_eq]; exact hi)] at h
  unfold Li.sgn
  rw [List.any_eq_false]
  intro x hx
  simp [h x hx]
theorem s44 (x : UInt8) (h : x ≠ 44) : ((x.toNat : Int) == 44) = false := Ch.byte_all (P := fun x => x ≠ 44 → ((x.toNat : Int) == 44) = false) (by decide +kernel) x h
theorem s59 (x : UInt8) (h : x ≠ 59) : ((x.toNat : Int) == 59) = false := Ch.byte_all (P := fun x => x ≠ 59 → ((x.toNat : Int) == 59) = false) (by decide +kernel) x h
theorem s58 (x : UInt8) (h : x ≠ 58) : ((x.toNat : Int) == 58) = false := Ch.byte_all (P := fun x => x ≠ 58 → ((x.toNat : Int) == 58) = false) (by decide +kernel) x h
theorem t44 (x : UInt8) (h : x = 44) : ((x.toNat : Int) == 44) = true := by subst h; rfl
theorem t59 (x : UInt8) (h : x = 59) : ((x.toNat : Int) == 59) = true := by subst h; rfl
theorem t58 (x : UInt8) (h : x = 58) : ((x.toNat : Int) == 58) = true := by subst h; rfl

set_option maxHeartbeats 4000000 in
set_option maxRecDepth 100000 in
theorem quotes_walk (v u : ByteArray) (w : World) (hT : Ch.Tabs w) (hv : v.size ≤ 274877906944) (hu : u.size ≤ 274877906944) :
    Calls Tryd.prog 6 #[.string v, .string u] w fun e w' => e = .returned (.bool true) ∧ Below w.heap.size w w' := by
  have hT' := Lib.hid hT
  clear hT
  obtain ⟨z, hz⟩ : ∃ z, v ++ u = z := ⟨_, rfl⟩
  have hzd : z.data.toList = v.data.toList ++ u.data.toList := by rw [← hz, ByteArray.data_append, Array.toList_append]
  have hzs : z.size = v.size + u.size := by rw [Lib.size_eq, hzd, List.length_append, ← Lib.size_eq, ← Lib.size_eq]
  have hzd' := Lib.hid hzd
  have hzs' := Lib.hid hzs
  clear hzd hzs
  have hno1 : ¬ 9223372036854775807 < v.size + u.size := by omega
  go_enter Tryd.func6, Tryd.ntmps6
  go_wp2_with (go_at_call 8; refine (first_any w hT'.out).mono ?_; rintro e w1 ⟨rfl, hb1⟩)
  go_loop [5] (fun s5 => ∃ i : Nat, s5 = .int .i64 (i : Int) ∧ i ≤ v.size + u.size ∧ ∀ x ∈ z.data.toList.take i, okB x = true) (fun s5 => v.size + u.size - (RowKit.intOf s5).toNat)
  case atStart => exact ⟨0, rfl, Nat.zero_le _, fun x hx => by simp at hx⟩
  case round =>
    obtain ⟨i, rfl, hi, hok⟩ := hrel
    have hok' := Lib.hid hok
    clear hok
    by_cases hlt : i < v.size + u.size
    · have hiz : i < z.size := by rw [hzs'.out]; exact hlt
      by_cases c1 : z[i]'hiz = 34
      · have d1 : (((z[i]'hiz).toNat : Int) == 34) = true := c34 _ c1
        clear c1
        go_wp2
        go_ret
        exact ⟨rfl, hb1⟩
      · have d1 : (((z[i]'hiz).toNat : Int) == 34) = false := b34 _ c1
        by_cases c2 : z[i]'hiz = 10
        · have d2 : (((z[i]'hiz).toNat : Int) == 10) = true := c10 _ c2
          clear c1 c2
          go_wp2
          go_ret
          exact ⟨rfl, hb1⟩
        · have d2 : (((z[i]'hiz).toNat : Int) == 10) = false := b10 _ c2
          by_cases c3 : z[i]'hiz = 13
          · have d3 : (((z[i]'hiz).toNat : Int) == 13) = true := c13 _ c3
            clear c1 c2 c3
            go_wp2
            go_ret
            exact ⟨rfl, hb1⟩
          · have d3 : (((z[i]'hiz).toNat : Int) == 13) = false := b13 _ c3
            have hnx := Lib.hid (all_step hok'.out hiz (by unfold okB; simp [c1, c2, c3]))
            clear c1 c2 c3
            go_wp2
            go_round
            case rel => exact ⟨i + 1, by go_num, by omega, hnx.out⟩
            case measure => simp [RowKit.intOf]; omega
    · have hall : ∀ x ∈ v.data.toList ++ u.data.toList, okB x = true := by
        have h := hok'.out
        rw [List.take_of_length_le (by rw [← Lib.size_eq, hzs'.out]; omega), hzd'.out] at h
        exact h
      obtain ⟨v34, vE⟩ := okB_all (fun x hx => hall x (List.mem_append.2 (.inl hx)))
      obtain ⟨u34, uE⟩ := okB_all (fun x hx => hall x (List.mem_append.2 (.inr hx)))
      have hQ : Quo v.data.toList u.data.toList := ⟨v34, u34, vE, uE⟩
      clear hall v34 vE u34 uE hz hno1 hok'
      obtain ⟨y1, hy1⟩ : ∃ y, (⟨#[65, 59, 66, 61, 34]⟩ : ByteArray) ++ v = y := ⟨_, rfl⟩
      obtain ⟨y2, hy2⟩ : ∃ y, y1 ++ (⟨#[34, 59, 67, 61, 34]⟩ : ByteArray) = y := ⟨_, rfl⟩
      obtain ⟨y3, hy3⟩ : ∃ y, y2 ++ u = y := ⟨_, rfl⟩
      obtain ⟨y4, hy4⟩ : ∃ y, y3 ++ (⟨#[34, 58, 120]⟩ : ByteArray) = y := ⟨_, rfl⟩
      have e1 : y1.data.toList = [65, 59, 66, 61, 34] ++ v.data.toList := by rw [← hy1, ByteArray.data_append, Array.toList_append]
      have e2 : y2.data.toList = y1.data.toList ++ [34, 59, 67, 61, 34] := by rw [← hy2, ByteArray.data_append, Array.toList_append]
      have e3 : y3.data.toList = y2.data.toList ++ u.data.toList := by rw [← hy3, ByteArray.data_append, Array.toList_append]
      have e4 : y4.data.toList = y3.data.toList ++ [34, 58, 120] := by rw [← hy4, ByteArray.data_append, Array.toList_append]
      have z1 : y1.size = v.size + 5 := by rw [Lib.size_eq, e1, List.length_append, ← Lib.size_eq]; simp; omega
      have z2 : y2.size = v.size + 10 := by rw [Lib.size_eq, e2, List.length_append, ← Lib.size_eq, z1]; rfl
      have z3 : y3.size = v.size + 10 + u.size := by rw [Lib.size_eq, e3, List.length_append, ← Lib.size_eq, ← Lib.size_eq, z2]
      have z4 : y4.size = v.size + 10 + u.size + 3 := by rw [Lib.size_eq, e4, List.length_append, ← Lib.size_eq, z3]; rfl
      have hq1 : IsQ1 y4 v u := by show y4.data.toList = _; rw [e4, e3, e2, e1]; simp [q1, qR]
      have n1 : ¬ 9223372036854775807 < 5 + v.size := by omega
      have n2 : ¬ 9223372036854775807 < y1.size + 5 := by omega
      have n3 : ¬ 9223372036854775807 < y2.size + u.size := by omega
      have n4 : ¬ 9223372036854775807 < y3.size + 3 := by omega
      have hy4s : y4.size ≤ 1099511627776 := by omega
      clear e1 e2 e3 e4 z1 z2 z3 z4 hzd' hzs'
      go_wp2_with fail
      go_at_call 9
      refine (parse_any y4 w1 (Ch.tabs_below hT'.out hb1) hy4s).mono ?_
      rintro e w2 ⟨hP, hb0⟩
      have hb2 := below_then hb1 hb0
      clear hb0 n1 n2 n3 n4 hy1 hy2 hy3 hy4 hy4s
      rcases hP with ⟨n, h, hn0, hn1, rfl⟩ | ⟨L, x1, h, rfl, hown⟩
      · obtain rfl := q1_bad hQ hq1 h
        clear h hQ hq1
        go_wp2
        go_ret
        exact ⟨rfl, hb2.trans ((Below.refl _ _).alloc hb2.size _)⟩
      · obtain ⟨hQ2, rfl⟩ := q1_ok hQ hq1 h
        clear h
        have hLA := hown.at
        obtain ⟨xg, xn, xv, b, off, c, b2, o2, c2, rfl, hbl, p2⟩ := qBox hLA
        clear hown hq1
        go_wp2
        have hkB := heap_alloc_new w2 (.cells #[.string xg, .string xn, .slice (some ⟨b, off, none⟩) 2 c, .string xv] 25)
        have hb3 : Below w2.heap.size w2 (w2.alloc (.cells #[.string xg, .string xn, .slice (some ⟨b, off, none⟩) 2 c, .string xv] 25)) := (Below.refl _ _).alloc (Nat.le_refl _) _
        have hLB := hLA.kept hb3
        have hbB := below_then hb2 hb3
        have hzB : w2.heap.size < (w2.alloc (.cells #[.string xg, .string xn, .slice (some ⟨b, off, none⟩) 2 c, .string xv] 25)).heap.size := by simp
        obtain ⟨wB, hwB⟩ : ∃ wB, w2.alloc (.cells #[.string xg, .string xn, .slice (some ⟨b, off, none⟩) 2 c, .string xv] 25) = wB := ⟨_, rfl⟩
        rw [hwB] at hkB hb3 hLB hbB hzB ⊢
        rw [← hb3.cell (p := ⟨b, off + 1, none⟩) hbl] at p2
        obtain ⟨k0, k1, k2, k3, _, _, _, _⟩ := res4 hkB
        have hkB' := Lib.hid hkB
        clear hwB hLA hb3 hkB
        go_loop [9] (fun s9 => ∃ i : Nat, s9 = .int .i64 (i : Int) ∧ i ≤ v.size ∧ NoSg v i) (fun s9 => v.size - (RowKit.intOf s9).toNat)
        case atStart => exact ⟨0, rfl, Nat.zero_le _, fun x hx => by simp at hx⟩
        case round =>
          obtain ⟨j, rfl, hj, hns⟩ := hrel
          by_cases hjl : j < v.size
          · by_cases c1 : v[j]'hjl = 44
            · have d1 := t44 _ c1
              clear c1
              go_wp2
              go_ret
              exact ⟨rfl, hbB⟩
            · have d1 := s44 _ c1
              by_cases c2 : v[j]'hjl = 59
              · have d2 := t59 _ c2
                clear c1 c2
                go_wp2
                go_ret
                exact ⟨rfl, hbB⟩
              · have d2 := s59 _ c2
                by_cases c3 : v[j]'hjl = 58
                · have d3 := t58 _ c3
                  clear c1 c2 c3
                  go_wp2
                  go_ret
                  exact ⟨rfl, hbB⟩
                · have d3 := s58 _ c3
                  have hnx := hns.one hjl (by unfold sgB; simp [c1, c2, c3])
                  clear c1 c2 c3
                  go_wp2
                  go_round
                  case rel => exact ⟨j + 1, by go_num, by omega, hnx⟩
                  case measure => simp [RowKit.intOf]; omega
          · have hsg := hns.sgn (by omega)
            clear hns
            obtain ⟨y1, hy1⟩ : ∃ y, (⟨#[65, 59, 66, 61]⟩ : ByteArray) ++ v = y := ⟨_, rfl⟩
            obtain ⟨y2, hy2⟩ : ∃ y, y1 ++ (⟨#[59, 67, 61, 34]⟩ : ByteArray) = y := ⟨_, rfl⟩
            obtain ⟨y3, hy3⟩ : ∃ y, y2 ++ u = y := ⟨_, rfl⟩
            obtain ⟨y4, hy4⟩ : ∃ y, y3 ++ (⟨#[34, 58, 120]⟩ : ByteArray) = y := ⟨_, rfl⟩
            have e1 : y1.data.toList = [65, 59, 66, 61] ++ v.data.toList := by rw [← hy1, ByteArray.data_append, Array.toList_append]
            have e2 : y2.data.toList = y1.data.toList ++ [59, 67, 61, 34] := by rw [← hy2, ByteArray.data_append, Array.toList_append]
            have e3 : y3.data.toList = y2.data.toList ++ u.data.toList := by rw [← hy3, ByteArray.data_append, Array.toList_append]
            have e4 : y4.data.toList = y3.data.toList ++ [34, 58, 120] := by rw [← hy4, ByteArray.data_append, Array.toList_append]
            have z1 : y1.size = v.size + 4 := by rw [Lib.size_eq, e1, List.length_append, ← Lib.size_eq]; simp; omega
            have z2 : y2.size = v.size + 8 := by rw [Lib.size_eq, e2, List.length_append, ← Lib.size_eq, z1]; rfl
            have z3 : y3.size = v.size + 8 + u.size := by rw [Lib.size_eq, e3, List.length_append, ← Lib.size_eq, ← Lib.size_eq, z2]
            have z4 : y4.size = v.size + 8 + u.size + 3 := by rw [Lib.size_eq, e4, List.length_append, ← Lib.size_eq, z3]; rfl
            have hq2 : IsQ2 y4 v u := by show y4.data.toList = _; rw [e4, e3, e2, e1]; simp [q2, qR]
            have n1 : ¬ 9223372036854775807 < 4 + v.size := by omega
            have n2 : ¬ 9223372036854775807 < y1.size + 4 := by omega
            have n3 : ¬ 9223372036854775807 < y2.size + u.size := by omega
            have n4 : ¬ 9223372036854775807 < y3.size + 3 := by omega
            have hy4s : y4.size ≤ 1099511627776 := by omega
            have hp2 := q2_ok hQ hq2 hQ2 hsg
            have hp2' : IsOk y4 (qL v.data.toList u.data.toList) := hp2
            clear e1 e2 e3 e4 z1 z2 z3 z4 hp2 hsg hQ hq2 hQ2
            go_wp2_with fail
            go_at_call 9
            refine (parse_any y4 wB (Ch.tabs_below hT'.out hbB) hy4s).mono ?_
            rintro e w3 ⟨hP, hb0⟩
            have hkB3 := (hb0.block _ hzB).trans hkB'.out
            have hLB3 := hLB.kept hb0
            have hb3 := below_then hbB hb0
            obtain ⟨k0', k1', k2', k3', _, _, _, _⟩ := res4 hkB3
            have hz3 : w2.heap.size < w3.heap.size := Nat.lt_of_lt_of_le hzB hb0.size
            have hkB4 := Lib.hid hkB3
            clear hb0 n1 n2 n3 n4 hy1 hy2 hy3 hy4 hy4s hkB' hkB3 hLB hzB k0 k1 k2 k3 p2
            rcases hP with ⟨n, h, _, _, _⟩ | ⟨L, x2, h, rfl, hown⟩
            · have h2 : parse y4.data.toList = .ok _ := hp2'
              rw [h2] at h
              cases h
            · have h2 : parse y4.data.toList = .ok _ := hp2'
              rw [h2] at h
              obtain rfl := LR.ok.inj h
              clear h h2
              have hL3 := hown.at
              obtain ⟨xg', xn', xv', b', off', c', b2', o2', c2', rfl, _, _⟩ := qBox hL3
              clear hown
              have hal : Below w3.heap.size w3 (w3.alloc (.cells #[.string xg', .string xn', .slice (some ⟨b', off', none⟩) 2 c', .string xv'] 25)) := (Below.refl _ _).alloc (Nat.le_refl _) _
              have hLa := hLB3.kept hal
              have hLb := hL3.kept hal
              have hba := below_then hb3 hal
              have cS := refSame_any _ _ _ _ _ hLa hLb
              clear hLa hLb hLB3 hL3
              go_wp2_with fail
              go_at_call 11
              refine cS.mono ?_
              rintro e w4 ⟨hS, hb4⟩
              obtain ⟨R, rfl, hR⟩ := hS
              obtain rfl := hR.2 rfl
              have hkC : w4.heap[w2.heap.size]? = some (.cells #[.string xg, .string xn, .slice (some ⟨b, off, none⟩) 2 c, .string xv] 25 (0, 0)) := by
                rw [hb4.block w2.heap.size (by simp; omega), hal.block w2.heap.size hz3]
                exact hkB4.out
              obtain ⟨l0, l1, l2, l3, _, _, _, _⟩ := res4 hkC
              clear cS hR hkC
              go_wp2
              go_ret
              exact ⟨rfl, below_then hba hb4⟩
end Go.Proofs.YthkcjfoihieooaaDoor.Li
